/- The walks of DigestStarts and DigestFull over a hasher's contracts. -/
import Derived.Test.YtaggbmlkfdfjpaaDoorDe
namespace Go.Proofs.YtaggbmlkfdfjpaaDoor
open Go.RowKit

theorem right5_c (n : Int) (w : World) : Calls Tryd.prog 10 #[.int .i64 n] w fun e w' => e = .returned (.bool (decide (0 ≤ n ∧ n ≤ 256))) ∧ w = w' := by
  rcases Classical.em (0 ≤ n) with a | a
  · have d1 : decide (0 ≤ n) = true := decide_eq_true a
    rcases Classical.em (n ≤ 256) with b | b
    · have d2 : decide (n ≤ 256) = true := decide_eq_true b
      have d3 : decide (0 ≤ n ∧ n ≤ 256) = true := decide_eq_true ⟨a, b⟩
      rw [d3]
      clear d3
      go_enter Tryd.func10, Tryd.ntmps10
      go_wp2_with fail
      go_ret
      exact ⟨rfl, rfl⟩
    · have d2 : decide (n ≤ 256) = false := decide_eq_false b
      have d3 : decide (0 ≤ n ∧ n ≤ 256) = false := decide_eq_false fun h => b h.2
      rw [d3]
      clear d3
      go_enter Tryd.func10, Tryd.ntmps10
      go_wp2_with fail
      go_ret
      exact ⟨rfl, rfl⟩
  · have d1 : decide (0 ≤ n) = false := decide_eq_false a
    have d3 : decide (0 ≤ n ∧ n ≤ 256) = false := decide_eq_false fun h => a h.1
    rw [d3]
    clear d3
    go_enter Tryd.func10, Tryd.ntmps10
    go_wp2_with fail
    go_ret
    exact ⟨rfl, rfl⟩

/-! ### DigestStarts -/
set_option maxHeartbeats 4000000 in
set_option maxRecDepth 100000 in
theorem starts_out {H : World → Nat → Int → Nat → Prop} (hs : HsC H) (ha : AliveC) (n : Int) (W : World) (hv : Vars W) (h : n < 0 ∨ 256 < n) : Calls Tryd.prog 3 #[.int .i64 n] W (Yes W) := by
  have HR : Hid (∀ w, Calls Tryd.prog 10 #[.int .i64 n] w fun e w' => e = .returned (.bool false) ∧ w = w') := fun w => by
    have := right5_c n w
    rwa [decide_eq_false (by omega)] at this
  have HO := Lib.hid (hs.out n W h)
  have HA := Lib.hid ha
  have HV := Lib.hid hv
  clear hs ha hv h
  go_enter Tryd.func3, Tryd.ntmps3
  go_wp2_with fail
  refine HO.out.mono ?_
  rintro e w1 ⟨rfl, hb⟩
  have B1 := Lib.hid hb
  clear hb
  go_wp2_with fail
  refine (HR.out w1).mono ?_
  rintro e w2 ⟨rfl, rfl⟩
  go_wp2_with fail
  refine (HA.out w1 (HV.out.below B1.out)).mono ?_
  rintro e w2 ⟨rfl, hb⟩
  have B2 : Hid (Below W.heap.size W w2) := B1.out.trans (hb.mono B1.out.size)
  clear hb
  go_wp2_with fail
  go_ret
  exact ⟨rfl, B2.out⟩
set_option maxHeartbeats 4000000 in
set_option maxRecDepth 100000 in
theorem starts_in {H : World → Nat → Int → Nat → Prop} (hs : HsC H) (ha : AliveC) (n : Int) (W : World) (hv : Vars W) (h0 : 0 ≤ n) (h1 : n ≤ 256) : Calls Tryd.prog 3 #[.int .i64 n] W (Yes W) := by
  have HR : Hid (∀ w, Calls Tryd.prog 10 #[.int .i64 n] w fun e w' => e = .returned (.bool true) ∧ w = w') := fun w => by
    have := right5_c n w
    rwa [decide_eq_true ⟨h0, h1⟩] at this
  have HO := Lib.hid (hs.new n W h0 h1)
  have HS := Lib.hid hs
  have HA := Lib.hid ha
  have HV := Lib.hid hv
  clear hs ha hv
  go_enter Tryd.func3, Tryd.ntmps3
  go_wp2_with fail
  refine HO.out.mono ?_
  rintro e w1 ⟨b, rfl, hb, hh, hk⟩
  have B1 := Lib.hid hk
  have H1 := Lib.hid hh
  clear hb hh hk
  go_wp2_with fail
  refine (HR.out w1).mono ?_
  rintro e w2 ⟨rfl, rfl⟩
  go_wp2_with fail
  refine (HA.out w1 (HV.out.below B1.out)).mono ?_
  rintro e w2 ⟨rfl, hb⟩
  have B2 : Hid (Below W.heap.size W w2) := B1.out.trans (hb.mono B1.out.size)
  have H2 := Lib.hid (HS.out.keep H1.out (Keep.of_below (L := fun _ => False) hb) fun h => h)
  clear hb
  go_wp2_with fail
  refine (HS.out.bits b n 0 w2 H2.out).mono ?_
  rintro e w3 ⟨rfl, rfl⟩
  go_wp2_with fail
  refine (HS.out.calls b n 0 w2 H2.out).mono ?_
  rintro e w3 ⟨rfl, rfl⟩
  go_wp2_with fail
  go_ret
  exact ⟨rfl, B2.out⟩

/-! ### DigestFull -/
set_option maxHeartbeats 4000000 in
set_option maxRecDepth 100000 in
theorem full_long (ha : AliveC) (A : Option Addr) (c : Nat) (l : List UInt8) (W : World) (hv : Vars W) (h : 1000 < l.length) : Calls Tryd.prog 6 #[.slice A l.length c] W (Yes W) := by
  have d1 : decide (1000 < l.length) = true := decide_eq_true h
  have d2 : decide (1000 < (l.length : Int)) = true := decide_eq_true (by omega)
  have HA := Lib.hid (ha W hv)
  clear ha hv
  go_enter Tryd.func6, Tryd.ntmps6
  go_wp2_with fail
  refine HA.out.mono ?_
  rintro e w2 ⟨rfl, hb2⟩
  go_wp2_with fail
  go_ret
  exact ⟨rfl, hb2⟩
set_option maxHeartbeats 4000000 in
set_option maxRecDepth 100000 in
theorem full_short {H : World → Nat → Int → Nat → Prop} (hs : HsC H) (ha : AliveC) (A : Option Addr) (c : Nat) (l : List UInt8) (W : World) (hA : BA W A l) (hc : l.length ≤ c) (hv : Vars W) (h : l.length ≤ 1000) : Calls Tryd.prog 6 #[.slice A l.length c] W (Yes W) := by
  have d1 : decide (1000 < l.length) = false := decide_eq_false (by omega)
  have d2 : decide (1000 < (l.length : Int)) = false := decide_eq_false (by omega)
  have HS := Lib.hid hs
  have HA := Lib.hid ha
  have HV := Lib.hid hv
  have HB := Lib.hid hA
  have q0 := eq26 z26 rfl
  have q1 := eq26 (sumL l) (sumL_len _)
  have z0 := bld_zero
  clear hs ha hv hA
  go_enter Tryd.func6, Tryd.ntmps6
  go_wp2_with fail
  refine (HS.out.new 256 W (by decide) (by decide)).mono ?_
  rintro e w1 ⟨b1, rfl, hb1, hh1, hk1⟩
  have B1 := Lib.hid hk1
  have H1 := Lib.hid hh1
  have L1 := Lib.hid hb1
  clear hk1 hh1 hb1
  go_wp2_with fail
  refine (HS.out.new 0 w1 (by decide) (by decide)).mono ?_
  rintro e w2 ⟨b2, rfl, hb2, hh2, hk2⟩
  have B2 : Hid (Below W.heap.size W w2) := B1.out.trans (hk2.mono B1.out.size)
  have H2 := Lib.hid hh2
  have ne0 : b1 < b2 := Nat.lt_of_lt_of_le (HS.out.lt H1.out) hb2
  have ne : b1 ≠ b2 := by omega
  have L2 : Hid (W.heap.size ≤ b2) := Nat.le_trans B1.out.size hb2
  have H12 := Lib.hid (HS.out.keep H1.out (Keep.of_below (L := fun _ => False) hk2) fun h => h)
  clear hk2 hh2 hb2 H1 B1
  go_wp2_with fail
  refine (HA.out w2 (HV.out.below B2.out)).mono ?_
  rintro e w3 ⟨rfl, hb⟩
  have B3 : Hid (Below W.heap.size W w3) := B2.out.trans (hb.mono B2.out.size)
  have H13 := Lib.hid (HS.out.keep H12.out (Keep.of_below (L := fun _ => False) hb) fun h => h)
  have H23 := Lib.hid (HS.out.keep H2.out (Keep.of_below (L := fun _ => False) hb) fun h => h)
  clear hb H12 H2
  go_wp2_with fail
  refine (HS.out.sum b1 256 0 A l c w3 H13.out (by decide) (HB.out.below B3.out) hc h (HV.out.below B3.out)).mono ?_
  rintro e w4 ⟨rfl, h4, k4⟩
  rw [dig_all l (Int.le_refl _)]
  have B4 : Hid (Below W.heap.size W w4) := B3.out.trans (k4.below B3.out.size fun i hi => by rw [hi]; exact L1.out)
  have H24 := Lib.hid (HS.out.keep H23.out k4 fun h => ne h.symm)
  clear h4 k4
  go_wp2_with fail
  refine (rsum_c A c l w4 (HB.out.below B4.out) (by omega)).mono ?_
  rintro e w5 ⟨rfl, hb⟩
  have B5 : Hid (Below W.heap.size W w5) := B4.out.trans (hb.mono B4.out.size)
  have H25 := Lib.hid (HS.out.keep H24.out (Keep.of_below (L := fun _ => False) hb) fun h => h)
  clear hb
  go_wp2_with fail
  refine (HS.out.sum b2 0 0 A l c w5 H25.out (by decide) (HB.out.below B5.out) hc h (HV.out.below B5.out)).mono ?_
  rintro e w6 ⟨rfl, h6, k6⟩
  rw [dig_none l (Int.le_refl _)]
  have B6 : Hid (Below W.heap.size W w6) := B5.out.trans (k6.below B5.out.size fun i hi => by rw [hi]; exact L2.out)
  clear h6 k6
  go_wp2_with fail
  go_ret
  exact ⟨rfl, B6.out⟩
end Go.Proofs.YtaggbmlkfdfjpaaDoor
