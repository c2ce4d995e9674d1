/- The contracts of the functions without loops over keys: bits.isNumber, mask, limit, Bit, leadingZeros; the reference's value and Bit. -/
import Derived.Test.YthpbfmjogecbmaaKit
import Derived.Test.YthpbfmjogecbmaaPure
namespace Go.Proofs.Ythpbfmjogecbmaa
open Go.RowKit

theorem ret_int {k : IntKind} {a b : Int} (h : a = b) : Ending.returned (.int k a) = .returned (.int k b) := by rw [h]

set_option maxHeartbeats 400000 in
theorem isNumber_yes (i : Int) (w : World) (h : 0 ≤ i) (h2 : i < 256) :
    Calls Try.prog 38 #[.int .i64 i] w fun e w' => e = .returned (.bool true) ∧ w = w' := by
  go_enter Try.func38, Try.ntmps38
  go_wp2
  go_ret
  exact ⟨rfl, rfl⟩
set_option maxHeartbeats 400000 in
theorem isNumber_no (i : Int) (w : World) (h : i < 0 ∨ 256 ≤ i) :
    Calls Try.prog 38 #[.int .i64 i] w fun e w' => e = .returned (.bool false) ∧ w = w' := by
  by_cases h1 : i < 0
  · go_enter Try.func38, Try.ntmps38
    go_wp2
    go_ret
    exact ⟨rfl, rfl⟩
  · have h2 : ¬ i < 256 := by omega
    clear h
    go_enter Try.func38, Try.ntmps38
    go_wp2
    go_ret
    exact ⟨rfl, rfl⟩
set_option maxHeartbeats 400000 in
theorem mask_c (i : Nat) (w : World) :
    Calls Try.prog 39 #[.int .i64 i] w fun e w' => e = .returned (.int .u8 (msk i)) ∧ w = w' := by
  go_enter Try.func39, Try.ntmps39
  go_wp2
  go_ret
  refine ⟨?_, rfl⟩
  have := pow_mask (i % 8) (by omega)
  simp [msk, ← this]
/-- A number within the range from 0 to 256. -/
def lim (i : Int) : Nat := (max 0 (min i 256)).toNat
theorem lim_le (i : Int) : lim i ≤ 256 := by unfold lim; omega

set_option maxHeartbeats 400000 in
theorem bit_no (k : Nat → Nat) (i : Int) (w : World) (h : i < 0 ∨ 256 ≤ i) :
    Calls Try.prog 34 #[.agg (kc k), .int .i64 i] w fun e w' => e = .returned (.int .i64 (-1)) ∧ Grew w w' := by
  go_enter Try.func34, Try.ntmps34
  go_wp2_with fail
  refine (isNumber_no i _ h).mono ?_
  rintro e w' ⟨rfl, rfl⟩
  go_wp2
  go_ret
  exact ⟨rfl, (Grew.refl _).alloc _⟩
set_option maxHeartbeats 400000 in
theorem bit_yes (k : Nat → Nat) (hk : Byt k) (i : Nat) (w : World) (h : i < 256) :
    Calls Try.prog 34 #[.agg (kc k), .int .i64 i] w fun e w' => e = .returned (.int .i64 (bit k i)) ∧ Grew w w' := by
  have hc := key_cell w k (i / 8) (by omega)
  have ha := u8_and_nat (k (i / 8)) (msk i) (hk _) (msk_lt i)
  have hz := and_msk_zero (k (i / 8)) i (hk _)
  have hl := bit_lt k i
  clear hk
  by_cases hb : bit k i = 0
  · have e : (((k (i / 8) &&& msk i : Nat) : Int) == 0) = true := by
      have := hz.2 hb
      simp [this]
    have HB : Hid (bit k i = 0) := hb
    clear hz hb hl
    go_enter Try.func34, Try.ntmps34
    go_wp2_with fail
    refine (isNumber_yes i _ (by omega) (by omega)).mono ?_
    rintro e w' ⟨rfl, rfl⟩
    go_wp2_with fail
    go_quiet ((go_at_call 39; exact Calls.quiet_of_same ((mask_c _ _).mono fun _ _ ⟨a, b⟩ => ⟨a, b.symm⟩)))
    go_wp2
    go_ret
    exact ⟨ret_int (by rw [HB.out]; rfl), Grew.drewN ((Grew.refl _).alloc _) _⟩
  · have e : (((k (i / 8) &&& msk i : Nat) : Int) == 0) = false := by
      have : ¬ (k (i / 8) &&& msk i = 0) := fun hh => hb (hz.1 hh)
      simpa using this
    have HB : Hid (bit k i = 1) := by show bit k i = 1; omega
    clear hz hb hl
    go_enter Try.func34, Try.ntmps34
    go_wp2_with fail
    refine (isNumber_yes i _ (by omega) (by omega)).mono ?_
    rintro e w' ⟨rfl, rfl⟩
    go_wp2_with fail
    go_quiet ((go_at_call 39; exact Calls.quiet_of_same ((mask_c _ _).mono fun _ _ ⟨a, b⟩ => ⟨a, b.symm⟩)))
    go_wp2
    go_ret
    exact ⟨ret_int (by rw [HB.out]; rfl), Grew.drewN ((Grew.refl _).alloc _) _⟩
theorem bit_g (k : Nat → Nat) (hk : Byt k) (i : Int) (w : World) :
    Calls Try.prog 34 #[.agg (kc k), .int .i64 i] w fun e w' => e = .returned (.int .i64 (bitI k i)) ∧ Grew w w' := by
  unfold bitI
  by_cases h : 0 ≤ i ∧ i < 256
  · rw [if_pos h]
    obtain ⟨n, rfl⟩ := Int.eq_ofNat_of_zero_le h.1
    rw [Int.toNat_natCast]
    exact bit_yes k hk n w (by omega)
  · rw [if_neg h]
    exact bit_no k i w (by omega)


theorem bit_c (k : Nat → Nat) (hk : Byt k) (i : Int) (w : World) :
    Calls Try.prog 34 #[.agg (kc k), .int .i64 i] w fun e w' => e = .returned (.int .i64 (bitI k i)) ∧ Below w.heap.size w w' := call_below (bit_g k hk i w)
set_option maxHeartbeats 400000 in
theorem rbit_no (k : Nat → Nat) (i : Int) (w : World) (h : i < 0 ∨ 256 ≤ i) :
    Calls Try.prog 25 #[.agg (kc k), .int .i64 i] w fun e w' => e = .returned (.int .i64 (-1)) ∧ Below w.heap.size w w' := by
  by_cases h1 : i < 0
  · go_enter Try.func25, Try.ntmps25
    go_wp2
    go_ret
    exact ⟨rfl, (Below.refl _ _).alloc (Nat.le_refl _) _⟩
  · have h2 : 255 < i := by omega
    clear h
    go_enter Try.func25, Try.ntmps25
    go_wp2
    go_ret
    exact ⟨rfl, (Below.refl _ _).alloc (Nat.le_refl _) _⟩
set_option maxHeartbeats 400000 in
theorem rbit_yes (k : Nat → Nat) (hk : Byt k) (i : Nat) (w : World) (h : i < 256) :
    Calls Try.prog 25 #[.agg (kc k), .int .i64 i] w fun e w' => e = .returned (.int .i64 (bit k i)) ∧ Below w.heap.size w w' := by
  have hc := key_cell w k (i / 8) (by omega)
  obtain ⟨x, hx⟩ : ∃ x, x = k (i / 8) := ⟨_, rfl⟩
  have hx256 : x < 256 := hx ▸ hk _
  rw [← hx] at hc
  have HX := Lib.hid hx
  have hns : ¬ (255 : Int) < i := by omega
  clear hx hk
  go_enter Try.func25, Try.ntmps25
  go_wp2
  go_loop [5, 6] (fun v j => ∃ m : Nat, i % 8 ≤ m ∧ m ≤ 7 ∧ j = .int .i64 m ∧ v = .int .i64 (x / 2 ^ (m - i % 8) : Nat)) (fun _ j => 7 - (intOf j).toNat)
  case atStart => exact ⟨i % 8, by omega, by omega, by simp, by simp⟩
  case round =>
    obtain ⟨m, h1, h2, rfl, rfl⟩ := hrel
    obtain ⟨v, hv⟩ : ∃ v : Nat, v = x / 2 ^ (m - i % 8) := ⟨_, rfl⟩
    have hp : v ≤ 255 := by rw [hv]; exact Nat.le_trans (Nat.div_le_self _ _) (by omega)
    rw [← hv]
    have HV := Lib.hid hv
    clear hv
    by_cases hlt : m < 7
    · go_wp2
      go_round
      case rel =>
        refine ⟨m + 1, by omega, by omega, by go_num, ?_⟩
        have : x / 2 ^ (m + 1 - i % 8) = v / 2 := by rw [HV.out, show m + 1 - i % 8 = (m - i % 8) + 1 by omega, Nat.pow_succ, Nat.div_div_eq_div_mul]
        rw [this]; go_num
      case measure => simp [intOf]; omega
    · go_wp2
      go_ret
      refine ⟨ret_int ?_, (Below.refl _ _).alloc (Nat.le_refl _) _⟩
      have : bit k i = v % 2 := by
        unfold bit msk; rw [← HX.out, HV.out, show m = 7 by omega]
      rw [this]
      simp
theorem rbit_c (k : Nat → Nat) (hk : Byt k) (i : Int) (w : World) :
    Calls Try.prog 25 #[.agg (kc k), .int .i64 i] w fun e w' => e = .returned (.int .i64 (bitI k i)) ∧ Below w.heap.size w w' := by
  unfold bitI
  by_cases h : 0 ≤ i ∧ i < 256
  · rw [if_pos h]
    obtain ⟨n, rfl⟩ := Int.eq_ofNat_of_zero_le h.1
    rw [Int.toNat_natCast]
    exact rbit_yes k hk n w (by omega)
  · rw [if_neg h]
    exact rbit_no k i w (by omega)

set_option maxHeartbeats 400000 in
theorem leadingZeros_c (d : Nat) (hd : d < 256) (w : World) :
    Calls Try.prog 40 #[.int .u8 d] w fun e w' => e = .returned (.int .i64 (lz d)) ∧ w = w' := by
  go_enter Try.func40, Try.ntmps40
  go_wp2
  go_loop [3, 4] (fun _ i => ∃ m : Nat, m ≤ 8 ∧ i = .int .i64 m ∧ Hid (∀ j, j < m → d / msk j % 2 = 0)) (fun _ i => 8 - (intOf i).toNat)
  case atStart => exact ⟨0, by omega, rfl, fun j hj => absurd hj (Nat.not_lt_zero j)⟩
  case round =>
    obtain ⟨m, h1, rfl, HM⟩ := hrel
    have ha := u8_and_nat d (msk m) hd (msk_lt m)
    have hz := and_msk_zero d m hd
    by_cases hlt : m < 8
    · by_cases hb : d / msk m % 2 = 0
      · have e : (((d &&& msk m : Nat) : Int) != 0) = false := by
          have := hz.2 hb
          simp [this]
        have HB := Lib.hid hb
        clear hz hb
        go_wp2_with ((go_at_call 39; refine (mask_c _ _).mono ?_; rintro e w' ⟨rfl, rfl⟩))
        go_round
        case rel =>
          refine ⟨m + 1, by omega, by go_num, fun j hj => ?_⟩
          rcases Nat.lt_or_ge j m with h | h
          · exact HM.out j h
          · rw [show j = m by omega]; exact HB.out
        case measure => simp [intOf]; omega
      · have e : (((d &&& msk m : Nat) : Int) != 0) = true := by
          have : ¬ (d &&& msk m = 0) := fun hh => hb (hz.1 hh)
          simpa using this
        have HB : Hid (d / msk m % 2 = 1) := by show d / msk m % 2 = 1; omega
        clear hz hb
        go_wp2_with ((go_at_call 39; refine (mask_c _ _).mono ?_; rintro e w' ⟨rfl, rfl⟩))
        go_ret
        exact ⟨ret_int (by rw [lz_eq h1 HM.out fun _ => HB.out]), rfl⟩
    · clear hz ha
      go_wp2
      go_ret
      exact ⟨ret_int (by rw [lz_eq (n := 8) (by omega) (fun j hj => HM.out j (by omega)) (fun h => absurd h (by decide))]; rfl), rfl⟩
end Go.Proofs.Ythpbfmjogecbmaa
