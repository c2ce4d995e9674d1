/- The contracts of Common and Compare, and of the reference's. -/
import Derived.Test.YthpbfmjogecbmaaA
namespace Go.Proofs.Ythpbfmjogecbmaa
open Go.RowKit

set_option maxHeartbeats 400000 in
theorem common_g (a b : Nat → Nat) (ha : Byt a) (hb : Byt b) (w : World) :
    Calls Try.prog 35 #[.agg (kc a), .agg (kc b)] w fun e w' => e = .returned (.int .i64 (common a b)) ∧ Grew w w' := by
  go_enter Try.func35, Try.ntmps35
  go_wp2
  go_loopw [5, 6, 7] (fun _ _ i wr => ∃ m n : Nat, m ≤ 32 ∧ i = .int .i64 m ∧ Hid (∀ j, j < m → a j = b j) ∧ wr = ((w.alloc (.cells (kc a) 24)).alloc (.cells (kc b) 24)).drewN n) (fun _ _ i _ => 32 - (intOf i).toNat)
  case atStart => exact ⟨0, 0, by omega, rfl, fun j hj => absurd hj (Nat.not_lt_zero j), rfl⟩
  case round =>
    obtain ⟨m, n, h1, rfl, HM, rfl⟩ := hrel
    by_cases hlt : m < 32
    · have ca := key_cell2 w (.cells (kc b) 24) a m hlt
      have cb := key_cell1 w (.cells (kc a) 24) b m hlt
      have hx := u8_xor_nat (a m) (b m) (ha m) (hb m)
      have hd : a m ^^^ b m < 256 := Nat.xor_lt_two_pow (n := 8) (ha m) (hb m)
      by_cases hab : a m = b m
      · have e : (((a m ^^^ b m : Nat) : Int) != 0) = false := by rw [hab]; simp
        have HE := Lib.hid hab
        clear hab
        go_wp2_with fail
        go_quiet (fail)
        go_wp2
        go_roundw
        case rel =>
          refine ⟨m + 1, _, by omega, by go_num, fun j hj => ?_, rfl⟩
          rcases Nat.lt_or_ge j m with h | h
          · exact HM.out j h
          · rw [show j = m by omega]; exact HE.out
        case measure => simp [intOf]; omega
      · have e : (((a m ^^^ b m : Nat) : Int) != 0) = true := by
          have : ¬ (a m ^^^ b m = 0) := fun h => hab (by have := congrArg (· ^^^ b m) h; simpa [Nat.xor_assoc] using this)
          simpa using this
        have HE := Lib.hid hab
        have hl : lz (a m ^^^ b m) ≤ 8 := (lz_spec _).1
        clear hab
        go_wp2_with fail
        go_quiet (fail)
        go_wp2_with ((go_at_call 40; refine (leadingZeros_c _ (by assumption) _).mono ?_; rintro e w' ⟨rfl, rfl⟩))
        go_ret
        exact ⟨ret_int (by rw [common_byte ha hb hlt HM.out HE.out]; simp), Grew.drewN (Grew.two _ _ _) _⟩
    · go_wp2
      go_ret
      exact ⟨ret_int (by rw [common_all fun j hj => HM.out j (by omega)]; rfl), Grew.drewN (Grew.two _ _ _) _⟩

set_option maxHeartbeats 400000 in
theorem compare_g (a b : Nat → Nat) (ha : Byt a) (hb : Byt b) (w : World) :
    Calls Try.prog 28 #[.agg (kc a), .agg (kc b)] w fun e w' => e = .returned (.int .i64 (cmp a b)) ∧ Grew w w' := by
  by_cases hk : keq a b = true
  · have HK := Lib.hid ((keq_iff a b).1 hk)
    go_enter Try.func28, Try.ntmps28
    go_wp2
    go_ret
    exact ⟨ret_int (by rw [cmp_eq HK.out]), Grew.two _ _ _⟩
  · have hk : keq a b = false := by simpa using hk
    have hn : common a b < 256 := by
      rcases Nat.lt_or_ge (common a b) 256 with h | h
      · exact h
      · have := (keq_iff a b).2 (common_full ha hb (by have := (common_spec a b).1; omega))
        rw [hk] at this; cases this
    have hcm := cmp_bit ha hb hn
    have hne := (common_spec a b).2.2 hn
    have l1 := bit_lt a (common a b)
    have l2 := bit_lt b (common a b)
    have hbi : bitI a (common a b) = bit a (common a b) := by unfold bitI; rw [if_pos ⟨by omega, by omega⟩]; simp
    by_cases hz : bit a (common a b) = 0
    · have e : (bitI a (common a b) == 0) = true := by rw [hbi, hz]; rfl
      have HC : Hid (cmp a b = -1) := by show cmp a b = -1; omega
      clear hcm hne l1 l2 hbi hz hn
      go_enter Try.func28, Try.ntmps28
      go_wp2_with fail
      have la := fun x : Behind ((w.alloc (.cells (kc a) 24)).alloc (.cells (kc b) 24)) => x.ld_two
      have lb := fun x : Behind ((w.alloc (.cells (kc a) 24)).alloc (.cells (kc b) 24)) => x.ld_two'
      refine wp_region_behind (by kernel_rfl) (by kernel_rfl) ?_
      repeat (go_big_quiet_step ((first | (go_at_call 35; exact Behind.call (common_g _ _ (by assumption) (by assumption) _)) | (go_at_call 34; exact Behind.call (bit_g _ (by assumption) _ _)))))
      refine wpQuiet_nil ?_
      rintro _ ⟨x, rfl⟩
      clear la lb
      go_wp2
      go_ret
      exact ⟨ret_int (by rw [HC.out]), (Grew.two _ _ _).trans x.h⟩
    · have e : (bitI a (common a b) == 0) = false := by rw [hbi]; simpa using hz
      have HC : Hid (cmp a b = 1) := by show cmp a b = 1; omega
      clear hcm hne l1 l2 hbi hz hn
      go_enter Try.func28, Try.ntmps28
      go_wp2_with fail
      have la := fun x : Behind ((w.alloc (.cells (kc a) 24)).alloc (.cells (kc b) 24)) => x.ld_two
      have lb := fun x : Behind ((w.alloc (.cells (kc a) 24)).alloc (.cells (kc b) 24)) => x.ld_two'
      refine wp_region_behind (by kernel_rfl) (by kernel_rfl) ?_
      repeat (go_big_quiet_step ((first | (go_at_call 35; exact Behind.call (common_g _ _ (by assumption) (by assumption) _)) | (go_at_call 34; exact Behind.call (bit_g _ (by assumption) _ _)))))
      refine wpQuiet_nil ?_
      rintro _ ⟨x, rfl⟩
      clear la lb
      go_wp2
      go_ret
      exact ⟨ret_int (by rw [HC.out]), (Grew.two _ _ _).trans x.h⟩

set_option maxHeartbeats 400000 in
theorem rcommon_c (a b : Nat → Nat) (ha : Byt a) (hb : Byt b) (w : World) :
    Calls Try.prog 23 #[.agg (kc a), .agg (kc b)] w fun e w' => e = .returned (.int .i64 (common a b)) ∧ Below w.heap.size w w' := by
  go_enter Try.func23, Try.ntmps23
  go_wp2
  go_loopw [5] (fun i wr => ∃ m : Nat, m ≤ 256 ∧ i = .int .i64 m ∧ Hid (∀ j, j < m → bit a j = bit b j) ∧ ∃ x : Later ((w.alloc (.cells (kc a) 24)).alloc (.cells (kc b) 24)), wr = x.w) (fun i _ => 256 - (intOf i).toNat)
  case atStart => exact ⟨0, by omega, rfl, fun j hj => absurd hj (Nat.not_lt_zero j), ⟨_, Below.refl _ _⟩, rfl⟩
  case round =>
    obtain ⟨m, h1, rfl, HM, x, rfl⟩ := hrel
    have la : ∀ y : Later x.w, ldKey y.w (.pointer (some ⟨w.heap.size, 0, none⟩)) = .ok (.value (.agg (kc a))) y.w := fun y => ldKey_of (y.block (x.block (heap_alloc2_old w _ _)))
    have lb : ∀ y : Later x.w, ldKey y.w (.pointer (some ⟨w.heap.size + 1, 0, none⟩)) = .ok (.value (.agg (kc b))) y.w := fun y => ldKey_of (y.block (x.block (heap_alloc2_new w _ _)))
    by_cases hlt : m < 256
    · have ea : bitI a m = bit a m := by unfold bitI; rw [if_pos ⟨by omega, by omega⟩]; simp
      have eb : bitI b m = bit b m := by unfold bitI; rw [if_pos ⟨by omega, by omega⟩]; simp
      have hd : decide ((m : Int) < 256) = true := by simp; omega
      by_cases hab : bit a m = bit b m
      · have e : (bitI a m == bitI b m) = true := by rw [ea, eb, hab]; simp
        have HE := Lib.hid hab
        clear hab ea eb
        go_wp2_with fail
        refine wp_region_later (by kernel_rfl) (by kernel_rfl) ?_
        repeat (go_big_quiet_step ((go_at_call 25; exact Later.call (rbit_c _ (by assumption) _ _))))
        refine wpQuiet_nil ?_
        rintro _ ⟨y, rfl⟩
        clear la lb
        go_wp2
        go_roundw
        case rel =>
          refine ⟨m + 1, by omega, by go_num, fun j hj => ?_, ⟨_, x.h.trans (y.h.mono x.h.size)⟩, rfl⟩
          rcases Nat.lt_or_ge j m with h | h
          · exact HM.out j h
          · rw [show j = m by omega]; exact HE.out
        case measure => simp [intOf]; omega
      · have e : (bitI a m == bitI b m) = false := by rw [ea, eb]; simp; omega
        have HE := Lib.hid hab
        clear hab ea eb
        go_wp2_with fail
        refine wp_region_later (by kernel_rfl) (by kernel_rfl) ?_
        repeat (go_big_quiet_step ((go_at_call 25; exact Later.call (rbit_c _ (by assumption) _ _))))
        refine wpQuiet_nil ?_
        rintro _ ⟨y, rfl⟩
        clear la lb
        go_wp2
        go_ret
        exact ⟨ret_int (by rw [common_eq h1 HM.out fun _ => HE.out]), x.two.trans (y.h.mono (Nat.le_trans (by simp; omega) x.h.size))⟩
    · have hd : decide ((m : Int) < 256) = false := by simp; omega
      go_wp2_with fail
      refine wp_region_later (by kernel_rfl) (by kernel_rfl) ?_
      repeat (go_big_quiet_step (fail))
      refine wpQuiet_nil ?_
      rintro _ ⟨y, rfl⟩
      clear la lb
      go_wp2
      go_ret
      exact ⟨ret_int (by rw [common_eq h1 HM.out fun h => absurd h hlt]), x.two.trans (y.h.mono (Nat.le_trans (by simp; omega) x.h.size))⟩

set_option maxHeartbeats 400000 in
theorem rcompare_c (a b : Nat → Nat) (w : World) :
    Calls Try.prog 29 #[.agg (kc a), .agg (kc b)] w fun e w' => e = .returned (.int .i64 (cmp a b)) ∧ Below w.heap.size w w' := by
  go_enter Try.func29, Try.ntmps29
  go_wp2
  go_loopw [5] (fun i wr => ∃ m n : Nat, m ≤ 32 ∧ i = .int .i64 m ∧ Hid (∀ j, j < m → a j = b j) ∧ wr = ((w.alloc (.cells (kc a) 24)).alloc (.cells (kc b) 24)).drewN n) (fun i _ => 32 - (intOf i).toNat)
  case atStart => exact ⟨0, 0, by omega, rfl, fun j hj => absurd hj (Nat.not_lt_zero j), rfl⟩
  case round =>
    obtain ⟨m, n, h1, rfl, HM, rfl⟩ := hrel
    by_cases hlt : m < 32
    · have ca := key_cell2 w (.cells (kc b) 24) a m hlt
      have cb := key_cell1 w (.cells (kc a) 24) b m hlt
      by_cases hl : a m < b m
      · have HE : Hid (cmp a b = -1) := by show cmp a b = -1; rw [cmp_at hlt HM.out (by omega), if_pos hl]
        have hd : decide ((a m : Int) < b m) = true := by simp; omega
        go_wp2_with fail
        go_quiet (fail)
        go_wp2
        go_ret
        exact ⟨ret_int (by rw [HE.out]), below_drewN (below_drewN (two_below _ _ _) _) _⟩
      · have hd : decide ((a m : Int) < b m) = false := by simp; omega
        by_cases hg : b m < a m
        · have HE : Hid (cmp a b = 1) := by show cmp a b = 1; rw [cmp_at hlt HM.out (by omega), if_neg hl]
          have hd' : decide ((b m : Int) < a m) = true := by simp; omega
          go_wp2_with fail
          go_quiet (fail)
          go_wp2_with fail
          go_quiet (fail)
          go_wp2
          go_ret
          exact ⟨ret_int (by rw [HE.out]), below_drewN (below_drewN (below_drewN (two_below _ _ _) _) _) _⟩
        · have hd' : decide ((b m : Int) < a m) = false := by simp; omega
          have HE : Hid (a m = b m) := by show a m = b m; omega
          go_wp2_with fail
          go_quiet (fail)
          go_wp2_with fail
          go_quiet (fail)
          go_wp2
          go_roundw
          case rel =>
            refine ⟨m + 1, _, by omega, by go_num, fun j hj => ?_, rfl⟩
            rcases Nat.lt_or_ge j m with h | h
            · exact HM.out j h
            · rw [show j = m by omega]; exact HE.out
          case measure => simp [intOf]; omega
    · go_wp2
      go_ret
      exact ⟨ret_int (by rw [cmp_eq fun j hj => HM.out j (by omega)]), below_drewN (two_below _ _ _) _⟩
theorem common_c (a b : Nat → Nat) (ha : Byt a) (hb : Byt b) (w : World) :
    Calls Try.prog 35 #[.agg (kc a), .agg (kc b)] w fun e w' => e = .returned (.int .i64 (common a b)) ∧ Below w.heap.size w w' := call_below (common_g a b ha hb w)
theorem compare_c (a b : Nat → Nat) (ha : Byt a) (hb : Byt b) (w : World) :
    Calls Try.prog 28 #[.agg (kc a), .agg (kc b)] w fun e w' => e = .returned (.int .i64 (cmp a b)) ∧ Below w.heap.size w w' := call_below (compare_g a b ha hb w)
end Go.Proofs.Ythpbfmjogecbmaa
