/- The reference's Flip and Prefix. -/
import Derived.Test.YtffgeoeoodogiaaDoorBtRbit
namespace Go.Proofs.YtffgeoeoodogiaaDoor.Bt
open Go.RowKit

set_option maxHeartbeats 400000 in
theorem rflip_no (k : Nat → Nat) (i : Int) (w : World) (h : i < 0 ∨ 256 ≤ i) :
    Calls Tryd.prog 39 #[.agg (kc k), .int .i64 i] w fun e w' => e = .returned (.agg (kc k)) ∧ Below w.heap.size w w' := by
  go_enter Tryd.func39, Tryd.ntmps39
  go_wp2_with fail
  refine (rbit_no k i _ h).mono ?_
  rintro e w1 ⟨rfl, hb⟩
  have KA := (KeyAt.two w k (.cells (kc kz) 23)).below hb (by simp; omega)
  have KB := (KeyAt.two' w kz (.cells (kc k) 23)).below hb (by simp)
  have la := KA.ld
  have sb := KB.st k
  have Hb := Lib.hid hb
  clear hb
  go_wp2
  refine bodyPost_ret (v := .agg (kc k)) ?_ rfl ⟨rfl, below_row ((two_below _ _ _).trans (Hb.out.mono (by simp; omega))) (by omega) _⟩
  exact results_cell_row Tryd.results39 _ _ (w.heap.size + 1) 23 _ (0, 0) _ rfl (KB.row k) Tryd.underlying23 rfl (by rw [kc_size]; exact info23)
set_option maxHeartbeats 400000 in
theorem rflip_yes (k : Nat → Nat) (hk : Byt k) (i : Nat) (w : World) (h : i < 256) :
    Calls Tryd.prog 39 #[.agg (kc k), .int .i64 i] w fun e w' => e = .returned (.agg (kc (flip k i))) ∧ Below w.heap.size w w' := by
  have hl := bit_lt k i
  have hx := hk (i / 8)
  have hm := msk_lt i
  have hm0 := msk_pos i
  by_cases hb0 : bit k i = 0
  · have e : (((bit k i : Nat) : Int) == 0) = true := by rw [hb0]; rfl
    have HF : Hid (upd k (i / 8) (k (i / 8) + msk i) = flip k i) := flip_zero hk hb0
    have hsum : k (i / 8) + msk i < 256 := by
      have h1 := xor_msk (k (i / 8)) i hx
      rw [if_pos (show k (i / 8) / msk i % 2 = 0 from hb0)] at h1
      rw [← h1]
      exact Nat.xor_lt_two_pow (n := 8) hx hm
    clear hl hb0
    go_enter Tryd.func39, Tryd.ntmps39
    go_wp2_with fail
    refine (rbit_yes k hk i _ h).mono ?_
    rintro e w1 ⟨rfl, hb⟩
    have KA := (KeyAt.two w k (.cells (kc kz) 23)).below hb (by simp; omega)
    have KB := (KeyAt.two' w kz (.cells (kc k) 23)).below hb (by simp)
    have ca := KA.cell (j := i / 8) (by omega)
    have fa := KA.free (i / 8)
    have Hb := Lib.hid hb
    clear hb
    have KS : KeyAt (w1.setCell ⟨w.heap.size, i / 8, none⟩ (.int .u8 ((k (i / 8) : Int) + msk i))) w.heap.size (flip k i) := by
      have := KA.set (i / 8) (k (i / 8) + msk i)
      rw [HF.out] at this
      simpa using this
    have KT : KeyAt (w1.setCell ⟨w.heap.size, i / 8, none⟩ (.int .u8 ((k (i / 8) : Int) + msk i))) (w.heap.size + 1) kz := KB.set_other (by omega) _ _
    have ls := fun n => (KS.drewN n).ld
    have st := fun n => (KT.drewN n).st (flip k i)
    go_wp2_with fail
    refine wp_region_drawn_tail 12 (by kernel_rfl) (by kernel_rfl) ?_
    simp only [List.take_succ_cons, List.take_zero, List.drop_succ_cons, List.drop_zero]
    repeat (go_big_quiet_step ((go_at_call 45; exact Calls.quiet_of_same ((value_c _ _).mono fun _ _ ⟨a, b⟩ => ⟨a, b.symm⟩))))
    refine wpQuiet_nil ?_
    rintro _ ⟨nq, rfl⟩
    go_wp2
    refine bodyPost_ret (v := .agg (kc (flip k i))) ?_ rfl ⟨rfl, below_row (below_drewN (((two_below _ _ _).trans (Hb.out.mono (by simp; omega))).setCell (Nat.le_refl _) _) _) (by omega) _⟩
    exact results_cell_row Tryd.results39 _ _ (w.heap.size + 1) 23 _ (0, 0) _ rfl ((KT.drewN nq).row _) Tryd.underlying23 rfl (by rw [kc_size]; exact info23)
  · have hb1 : bit k i = 1 := by omega
    have e : (((bit k i : Nat) : Int) == 0) = false := by rw [hb1]; rfl
    have e1 : (((bit k i : Nat) : Int) == 1) = true := by rw [hb1]; rfl
    have HF : Hid (upd k (i / 8) (k (i / 8) - msk i) = flip k i) := flip_one hk hb1
    have hsum : msk i ≤ k (i / 8) := by
      have h1 : k (i / 8) / msk i % 2 = 1 := hb1
      exact Nat.le_of_not_lt fun h => by rw [Nat.div_eq_of_lt h] at h1; cases h1
    clear hl hb0 hb1
    go_enter Tryd.func39, Tryd.ntmps39
    go_wp2_with fail
    refine (rbit_yes k hk i _ h).mono ?_
    rintro e w1 ⟨rfl, hb⟩
    have KA := (KeyAt.two w k (.cells (kc kz) 23)).below hb (by simp; omega)
    have KB := (KeyAt.two' w kz (.cells (kc k) 23)).below hb (by simp)
    have ca := KA.cell (j := i / 8) (by omega)
    have fa := KA.free (i / 8)
    have Hb := Lib.hid hb
    clear hb
    have KS : KeyAt (w1.setCell ⟨w.heap.size, i / 8, none⟩ (.int .u8 ((k (i / 8) : Int) - msk i))) w.heap.size (flip k i) := by
      have := KA.set (i / 8) (k (i / 8) - msk i)
      rw [HF.out] at this
      rwa [Int.ofNat_sub hsum] at this
    have KT : KeyAt (w1.setCell ⟨w.heap.size, i / 8, none⟩ (.int .u8 ((k (i / 8) : Int) - msk i))) (w.heap.size + 1) kz := KB.set_other (by omega) _ _
    have ls := fun n => (KS.drewN n).ld
    have st := fun n => (KT.drewN n).st (flip k i)
    go_wp2_with fail
    refine wp_region_drawn_tail 12 (by kernel_rfl) (by kernel_rfl) ?_
    simp only [List.take_succ_cons, List.take_zero, List.drop_succ_cons, List.drop_zero]
    repeat (go_big_quiet_step ((go_at_call 45; exact Calls.quiet_of_same ((value_c _ _).mono fun _ _ ⟨a, b⟩ => ⟨a, b.symm⟩))))
    refine wpQuiet_nil ?_
    rintro _ ⟨nq, rfl⟩
    go_wp2
    refine bodyPost_ret (v := .agg (kc (flip k i))) ?_ rfl ⟨rfl, below_row (below_drewN (((two_below _ _ _).trans (Hb.out.mono (by simp; omega))).setCell (Nat.le_refl _) _) _) (by omega) _⟩
    exact results_cell_row Tryd.results39 _ _ (w.heap.size + 1) 23 _ (0, 0) _ rfl ((KT.drewN nq).row _) Tryd.underlying23 rfl (by rw [kc_size]; exact info23)
theorem rflip_c (k : Nat → Nat) (hk : Byt k) (i : Int) (w : World) :
    Calls Tryd.prog 39 #[.agg (kc k), .int .i64 i] w fun e w' => e = .returned (.agg (kc (flipI k i))) ∧ Below w.heap.size w w' := by
  unfold flipI
  by_cases h : 0 ≤ i ∧ i < 256
  · rw [if_pos h]
    obtain ⟨n, rfl⟩ := Int.eq_ofNat_of_zero_le h.1
    rw [Int.toNat_natCast]
    exact rflip_yes k hk n w (by omega)
  · rw [if_neg h]
    exact rflip_no k i w (by omega)
theorem kz_pre (k : Nat → Nat) (hk : Byt k) : ∀ j, j < 32 → kz j = pre k 0 j := fun j _ => by
  have := hk 0
  unfold kz pre
  rw [if_neg (by omega)]
  by_cases h : j = 0
  · subst h; simp; omega
  · simp [h]
set_option maxHeartbeats 400000 in
set_option maxRecDepth 100000 in
theorem rprefix_neg (k : Nat → Nat) (hk : Byt k) (i : Int) (w : World) (hneg : i < 0) :
    Calls Tryd.prog 29 #[.agg (kc k), .int .i64 i] w fun e w' => e = .returned (.agg (kc (pre k (0)))) ∧ Below w.heap.size w w' := by
  go_enter Tryd.func29, Tryd.ntmps29
  go_wp2
  go_loopw [5] (fun j wr => ∃ m : Nat, 0 ≤ m ∧ m ≤ 256 ∧ j = .int .i64 ((m : Int) - 1) ∧ KeyAt wr w.heap.size (pre k m) ∧ KeyAt wr (w.heap.size + 1) kz ∧ Below w.heap.size w wr) (fun j _ => (intOf j + 1).toNat)
  case atStart => exact ⟨256, by omega, by omega, rfl, (KeyAt.two w k _).congr (fun j hj => (pre_256 k j hj).symm), KeyAt.two' w kz _, two_below _ _ _⟩
  case round =>
    obtain ⟨m, h1, h2, rfl, KA, KB, hB⟩ := hrel
    have HB := Lib.hid hB
    clear hB
    by_cases hlt : 0 < m
    · obtain ⟨q, rfl⟩ : ∃ q, m = q + 1 := ⟨m - 1, by omega⟩
      rw [show (((q + 1 : Nat) : Int) - 1) = (q : Int) by omega]
      obtain ⟨p, hp⟩ : ∃ p, p = pre k (q + 1) := ⟨_, rfl⟩
      have hpb : Byt p := hp ▸ pre_byt hk _
      rw [← hp] at KA
      have HP := Lib.hid hp
      clear hp
      have la := KA.ld
      have hl := bit_lt p q
      by_cases hb1 : bit p q = 1
      · have e : (((bit p q : Nat) : Int) == 1) = true := by rw [hb1]; rfl
        have HBit := Lib.hid hb1
        clear hb1 hl
        go_wp2_with fail
        refine (rbit_yes p hpb q _ (by omega)).mono ?_
        rintro e w2 ⟨rfl, hb⟩
        have KA2 := KA.below hb KA.lt
        have KB2 := KB.below hb KB.lt
        have la2 := KA2.ld
        have H2 := Lib.hid hb
        clear hb
        go_wp2_with fail
        refine (rflip_yes p hpb q _ (by omega)).mono ?_
        rintro e w3 ⟨rfl, hb⟩
        have KA3 := KA2.below hb KA2.lt
        have KB3 := KB2.below hb KB2.lt
        have sa := KA3.st (flip p q)
        have H3 := Lib.hid hb
        clear hb
        have hs : w.heap.size ≤ _ := HB.out.size
        go_wp2
        go_roundw
        case rel =>
          refine ⟨q, by omega, by omega, rfl, ?_, KB3.row_other (by omega) _, ?_⟩
          · refine (KA3.row _).congr fun j hj => ?_
            have hbit := HBit.out
            rw [HP.out] at hbit ⊢
            exact pre_step_one hk hbit j hj
          · exact below_row ((HB.out.trans (H2.out.mono hs)).trans (H3.out.mono (Nat.le_trans hs H2.out.size))) (Nat.le_refl _) _
        case measure => simp [intOf]
      · have e : (((bit p q : Nat) : Int) == 1) = false := by rw [show bit p q = 0 by omega]; rfl
        have HBit : Hid (bit p q = 0) := by show bit p q = 0; omega
        clear hb1 hl
        go_wp2_with fail
        refine (rbit_yes p hpb q _ (by omega)).mono ?_
        rintro e w2 ⟨rfl, hb⟩
        have KA2 := KA.below hb KA.lt
        have KB2 := KB.below hb KB.lt
        have H2 := Lib.hid hb
        clear hb
        have hs : w.heap.size ≤ _ := HB.out.size
        go_wp2
        go_roundw
        case rel =>
          refine ⟨q, by omega, by omega, rfl, ?_, KB2, HB.out.trans (H2.out.mono hs)⟩
          refine KA2.congr fun j hj => ?_
          have hbit := HBit.out
          rw [HP.out] at hbit ⊢
          exact pre_step_zero hk hbit j hj
        case measure => simp [intOf]
    · have hm : Hid (m = 0) := by show m = 0; omega
      have la := KA.ld
      have sb := KB.st (pre k m)
      go_wp2
      refine bodyPost_ret (v := .agg (kc (pre k m))) ?_ rfl ⟨by rw [hm.out], below_row HB.out (by omega) _⟩
      exact results_cell_row Tryd.results29 _ _ (w.heap.size + 1) 23 _ (0, 0) _ rfl (KB.row _) Tryd.underlying23 rfl (by rw [kc_size]; exact info23)
set_option maxHeartbeats 400000 in
set_option maxRecDepth 100000 in
theorem rprefix_in (k : Nat → Nat) (hk : Byt k) (n : Nat) (w : World) (hn : n ≤ 256) :
    Calls Tryd.prog 29 #[.agg (kc k), .int .i64 n] w fun e w' => e = .returned (.agg (kc (pre k (n)))) ∧ Below w.heap.size w w' := by
  go_enter Tryd.func29, Tryd.ntmps29
  go_wp2
  go_loopw [5] (fun j wr => ∃ m : Nat, n ≤ m ∧ m ≤ 256 ∧ j = .int .i64 ((m : Int) - 1) ∧ KeyAt wr w.heap.size (pre k m) ∧ KeyAt wr (w.heap.size + 1) kz ∧ Below w.heap.size w wr) (fun j _ => (intOf j + 1).toNat)
  case atStart => exact ⟨256, hn, by omega, rfl, (KeyAt.two w k _).congr (fun j hj => (pre_256 k j hj).symm), KeyAt.two' w kz _, two_below _ _ _⟩
  case round =>
    obtain ⟨m, h1, h2, rfl, KA, KB, hB⟩ := hrel
    have HB := Lib.hid hB
    clear hB
    by_cases hlt : n < m
    · obtain ⟨q, rfl⟩ : ∃ q, m = q + 1 := ⟨m - 1, by omega⟩
      rw [show (((q + 1 : Nat) : Int) - 1) = (q : Int) by omega]
      obtain ⟨p, hp⟩ : ∃ p, p = pre k (q + 1) := ⟨_, rfl⟩
      have hpb : Byt p := hp ▸ pre_byt hk _
      rw [← hp] at KA
      have HP := Lib.hid hp
      clear hp
      have la := KA.ld
      have hl := bit_lt p q
      by_cases hb1 : bit p q = 1
      · have e : (((bit p q : Nat) : Int) == 1) = true := by rw [hb1]; rfl
        have HBit := Lib.hid hb1
        clear hb1 hl
        go_wp2_with fail
        refine (rbit_yes p hpb q _ (by omega)).mono ?_
        rintro e w2 ⟨rfl, hb⟩
        have KA2 := KA.below hb KA.lt
        have KB2 := KB.below hb KB.lt
        have la2 := KA2.ld
        have H2 := Lib.hid hb
        clear hb
        go_wp2_with fail
        refine (rflip_yes p hpb q _ (by omega)).mono ?_
        rintro e w3 ⟨rfl, hb⟩
        have KA3 := KA2.below hb KA2.lt
        have KB3 := KB2.below hb KB2.lt
        have sa := KA3.st (flip p q)
        have H3 := Lib.hid hb
        clear hb
        have hs : w.heap.size ≤ _ := HB.out.size
        go_wp2
        go_roundw
        case rel =>
          refine ⟨q, by omega, by omega, rfl, ?_, KB3.row_other (by omega) _, ?_⟩
          · refine (KA3.row _).congr fun j hj => ?_
            have hbit := HBit.out
            rw [HP.out] at hbit ⊢
            exact pre_step_one hk hbit j hj
          · exact below_row ((HB.out.trans (H2.out.mono hs)).trans (H3.out.mono (Nat.le_trans hs H2.out.size))) (Nat.le_refl _) _
        case measure => simp [intOf]
      · have e : (((bit p q : Nat) : Int) == 1) = false := by rw [show bit p q = 0 by omega]; rfl
        have HBit : Hid (bit p q = 0) := by show bit p q = 0; omega
        clear hb1 hl
        go_wp2_with fail
        refine (rbit_yes p hpb q _ (by omega)).mono ?_
        rintro e w2 ⟨rfl, hb⟩
        have KA2 := KA.below hb KA.lt
        have KB2 := KB.below hb KB.lt
        have H2 := Lib.hid hb
        clear hb
        have hs : w.heap.size ≤ _ := HB.out.size
        go_wp2
        go_roundw
        case rel =>
          refine ⟨q, by omega, by omega, rfl, ?_, KB2, HB.out.trans (H2.out.mono hs)⟩
          refine KA2.congr fun j hj => ?_
          have hbit := HBit.out
          rw [HP.out] at hbit ⊢
          exact pre_step_zero hk hbit j hj
        case measure => simp [intOf]
    · have hm : Hid (m = n) := by show m = n; omega
      have la := KA.ld
      have sb := KB.st (pre k m)
      go_wp2
      refine bodyPost_ret (v := .agg (kc (pre k m))) ?_ rfl ⟨by rw [hm.out], below_row HB.out (by omega) _⟩
      exact results_cell_row Tryd.results29 _ _ (w.heap.size + 1) 23 _ (0, 0) _ rfl (KB.row _) Tryd.underlying23 rfl (by rw [kc_size]; exact info23)
set_option maxHeartbeats 400000 in
theorem rprefix_far (k : Nat → Nat) (i : Int) (w : World) (hi : 256 ≤ i) :
    Calls Tryd.prog 29 #[.agg (kc k), .int .i64 i] w fun e w' => e = .returned (.agg (kc (pre k 256))) ∧ Below w.heap.size w w' := by
  have hn : ¬ i < 0 := by omega
  go_enter Tryd.func29, Tryd.ntmps29
  go_wp2
  go_loopw [5] (fun j wr => j = .int .i64 255 ∧ wr = (w.alloc (.cells (kc k) 23)).alloc (.cells (kc kz) 23)) (fun _ _ => 0)
  case atStart => exact ⟨rfl, rfl⟩
  case round =>
    obtain ⟨rfl, rfl⟩ := hrel
    have h5 : ¬ i ≤ 255 := by omega
    go_wp2
    refine bodyPost_ret (v := .agg (kc k)) ?_ rfl ⟨by rw [kc_congr (pre_256 k)], two_below _ _ _⟩
    exact results_cell_row Tryd.results29 _ _ (w.heap.size + 1) 23 _ (0, 0) _ rfl (heap_alloc2_new w _ _) Tryd.underlying23 rfl (by rw [kc_size]; exact info23)
theorem rprefix_c (k : Nat → Nat) (hk : Byt k) (i : Int) (w : World) :
    Calls Tryd.prog 29 #[.agg (kc k), .int .i64 i] w fun e w' => e = .returned (.agg (kc (pre k (lim i)))) ∧ Below w.heap.size w w' := by
  by_cases h : i < 0
  · rw [show lim i = 0 by unfold lim; omega]
    exact rprefix_neg k hk i w h
  · by_cases h2 : 256 ≤ i
    · rw [show lim i = 256 by unfold lim; omega]
      exact rprefix_far k i w h2
    · obtain ⟨n, rfl⟩ := Int.eq_ofNat_of_zero_le (show 0 ≤ i by omega)
      rw [show lim n = n by unfold lim; omega]
      exact rprefix_in k hk n w (by omega)
end Go.Proofs.YtffgeoeoodogiaaDoor.Bt
