/- The walk of ShaOwns. -/
import Derived.Test.YtkbipmhhiahkpaaDoorN
namespace Go.Proofs.YtkbipmhhiahkpaaDoor
open Go.RowKit

set_option maxHeartbeats 2000000 in
set_option maxRecDepth 100000 in
theorem owns_long (A : Option Addr) (c : Nat) (l : List UInt8) (i : Int) (W : World) (hv : Vars W) (h : 2000 < l.length) : Calls Tryd.prog 8 #[.slice A l.length c, .int .u16 i] W (Yes W) := by
  have d1 : decide (2000 < l.length) = true := decide_eq_true h
  have d2 : decide (2000 < (l.length : Int)) = true := decide_eq_true (by omega)
  have HV := Lib.hid hv
  clear hv
  go_enter Tryd.func8, Tryd.ntmps8
  go_wp2_with fail
  refine (alive_c W HV.out).mono ?_
  rintro e w2 ⟨rfl, hb2⟩
  go_wp2_with fail
  go_ret
  exact ⟨rfl, hb2⟩
theorem BA.other {w w' : World} {A : Option Addr} {l : List UInt8} {g : Nat} (h : BA w A l) (k : Keep (fun i => i = g) w w') (hg : ∀ b o, A = some ⟨b, o, none⟩ → b < w.heap.size → b ≠ g) : BA w' A l := fun j x hx => by
  obtain ⟨b, o, e, h1⟩ := h j x hx
  exact ⟨b, o, e, k.cellAt h1 (hg b o e (lt_of_cell h1))⟩
set_option maxHeartbeats 4000000 in
set_option maxRecDepth 100000 in
theorem owns_short (A : Option Addr) (c : Nat) (l : List UInt8) (i : Nat) (W : World) (hA : BA W A l) (hv : Vars W) (h : l.length ≤ 2000) (hi : i ≤ 65535) : Calls Tryd.prog 8 #[.slice A l.length c, .int .u16 (i : Int)] W (Yes W) := by
  have d1 : decide (2000 < l.length) = false := decide_eq_false (by omega)
  have d2 : decide (2000 < (l.length : Int)) = false := decide_eq_false (by omega)
  have HV := Lib.hid hv
  have HA := Lib.hid hA
  obtain ⟨N, hN⟩ : ∃ N, N = 64 * ((l.length + 72) / 64) := ⟨_, rfl⟩
  have HPL : Hid ((padL l).length = N) := by show _ = _; rw [padL_len, hN]
  have hN1 : 64 ≤ N := by omega
  have hN2 : N ≤ 2560 := by omega
  clear hv hA hN
  go_enter Tryd.func8, Tryd.ntmps8
  go_wp2_with fail
  refine (clone_c A l c W HA.out (by omega)).mono ?_
  rintro e w1 ⟨v, rfl, ⟨A1, c1, rfl, hc1, hba1⟩, hb1⟩
  have HB1 := Lib.hid hb1
  have HBA1 := Lib.hid hba1
  clear hb1 hba1
  go_wp2_with fail
  refine (ppad_c A1 l c1 w1 HBA1.out hc1 (by omega)).mono ?_
  rintro e w2 ⟨v2, rfl, hO, hb2⟩
  obtain ⟨g, c2, rfl, hc2, _, hg, hba2⟩ := hO.ba (by rw [HPL.out]; omega)
  rw [HPL.out] at hc2 ⊢
  obtain ⟨m, hm⟩ : ∃ m, m = i % N := ⟨_, rfl⟩
  have hmN : m < N := by rw [hm]; exact Nat.mod_lt _ (by omega)
  have hmI : (i : Int) % (N : Int) = (m : Int) := by rw [hm]; omega
  obtain ⟨x, hx⟩ : ∃ x, (padL l)[m]? = some x := ⟨_, List.getElem?_eq_getElem (by rw [HPL.out]; exact hmN)⟩
  obtain ⟨b', o', e', hcell⟩ := hba2 m x hx
  cases e'
  rw [Nat.zero_add] at hcell
  have HB2 := Lib.hid (HB1.out.trans (hb2.mono HB1.out.size))
  have HBA2 := Lib.hid (HBA1.out.below hb2)
  have HBAW2 := Lib.hid (HA.out.below HB2.out)
  have hfz : w2.frozen? ⟨g, m, none⟩ = false := by
    obtain ⟨_, ⟨h1, _⟩ | ⟨g', cap', cur, e2, _, hh, _⟩⟩ := hO
    · cases h1
    · cases e2
      exact frozen_of_row w2 _ _ _ _ hh
  have HG := Lib.hid hg
  have p1 : (0 : Int) ≤ (m : Int) := by omega
  have p2 : (m : Int) < (N : Int) := by omega
  have dN : (((N : Nat) : Int) == 0) = false := by rw [beq_eq_false_iff_ne]; omega
  have HM := Lib.hid hm
  have HB12 := Lib.hid hb2
  clear hm hb2 hba2 hO hx hg
  go_wp2_with fail
  obtain ⟨w3, hw3⟩ : ∃ w3, w3 = w2.setCell ⟨g, m, none⟩ (.int .u8 (((x.toNat : Int) + 1) % 256)) := ⟨_, rfl⟩
  rw [← hw3]
  have k1 : Keep (fun j => j = g) w1 w3 := by rw [hw3]; exact (Keep.of_below HB12.out).step (Keep.cell w2 ⟨g, m, none⟩ _) fun j hj => .inl hj
  have k0 : Keep (fun j => j = g) W w3 := (Keep.of_below HB1.out).trans k1
  have sz1 := HB1.out.size
  have hg := HG.out
  have h2 := HV.out.kt.two
  have hv3 : Vars w3 := HV.out.keep k0 (by omega) (by omega)
  have hb3 : Below W.heap.size W w3 := k0.below (Nat.le_refl _) fun j hj => by omega
  have ba3 : BA w3 A l := HA.out.other k0 fun b o _ hb => by omega
  have ba31 : BA w3 A1 l := HBA1.out.other k1 fun b o _ hb => by omega
  have HB3 := Lib.hid hb3
  have HBA3 := Lib.hid ba3
  have HBA31 := Lib.hid ba31
  refine (alive_c w3 hv3).mono ?_
  rintro e w4 ⟨rfl, hb4⟩
  have HB4 : Hid (Below W.heap.size W w4) := HB3.out.trans (hb4.mono HB3.out.size)
  have HBA4 := Lib.hid (HBA3.out.below hb4)
  have HBA41 := Lib.hid (HBA31.out.below hb4)
  clear hw3 k1 k0 hv3 hb3 ba3 ba31 hb4 hcell hfz
  go_wp2_with fail
  refine (same_yes A A1 c c1 l.length l w4 rfl HBA4.out HBA41.out (by omega)).mono ?_
  rintro e w5 ⟨rfl, hb5⟩
  have HB5 : Hid (Below W.heap.size W w5) := HB4.out.trans (hb5.mono HB4.out.size)
  have HBA5 := Lib.hid (HBA4.out.below hb5)
  have HBA51 := Lib.hid (HBA41.out.below hb5)
  clear hb5
  go_wp2_with fail
  refine (ppad_c A1 l c1 w5 HBA51.out hc1 (by omega)).mono ?_
  rintro e w6 ⟨v6, rfl, hO6, hb6⟩
  obtain ⟨A6, c6, rfl, _, hba6⟩ := hO6.any
  rw [HPL.out]
  have HB6 : Hid (Below W.heap.size W w6) := HB5.out.trans (hb6.mono HB5.out.size)
  have HBA6 := Lib.hid (HBA5.out.below hb6)
  have HP6 := Lib.hid hba6
  clear hb6 hba6 hO6
  go_wp2_with fail
  refine (pad_c A c l w6 HBA6.out (by omega)).mono ?_
  rintro e w7 ⟨v7, rfl, hO7, hb7⟩
  obtain ⟨A7, c7, rfl, _, hba7⟩ := hO7.any
  rw [HPL.out]
  have HB7 : Hid (Below W.heap.size W w7) := HB6.out.trans (hb7.mono HB6.out.size)
  have HP7 := Lib.hid (HP6.out.below hb7)
  have HP71 := Lib.hid hba7
  clear hb7 hba7 hO7
  go_wp2_with fail
  refine (same_yes A6 A7 c6 c7 N (padL l) w7 HPL.out HP7.out HP71.out (by omega)).mono ?_
  rintro e w8 ⟨rfl, hb8⟩
  have HB8 : Hid (Below W.heap.size W w8) := HB7.out.trans (hb8.mono HB7.out.size)
  clear hb8
  go_wp2_with fail
  go_ret
  exact ⟨rfl, HB8.out⟩
theorem owns_w (A : Option Addr) (c : Nat) (l : List UInt8) (i : Int) (W : World) (hA : BA W A l) (_hc : l.length ≤ c) (hv : Vars W) (h0 : 0 ≤ i) (hi : i ≤ 65535) : Calls Tryd.prog 8 #[.slice A l.length c, .int .u16 i] W (Yes W) := by
  rcases Nat.lt_or_ge 2000 l.length with h | h
  · exact owns_long A c l i W hv h
  · obtain ⟨k, rfl⟩ : ∃ k : Nat, i = k := ⟨i.toNat, by omega⟩
    exact owns_short A c l k W hA hv h (by omega)
end Go.Proofs.YtkbipmhhiahkpaaDoor
