/- The reference of layer 8: End, Sibling, Under; of layer 7: Get, Same. -/
import Derived.Test.YtpnpdllkcglpnaaDoorM9
import Derived.Test.YtpnpdllkcglpnaaDoorM7
import Derived.Test.YtpnpdllkcglpnaaDoorM3
namespace Go.Proofs.YtpnpdllkcglpnaaDoor
open Go.RowKit

/-- The entries below depth i on the way of k, those beside it. -/
def dE (es : List En) (k : List UInt8) : Nat → List En
  | 0 => es
  | i + 1 => partE (dE es k i) i (bitK k i)
def sibE (es : List En) (k : List UInt8) (i : Nat) : List En := partE (dE es k i) i (1 - bitK k i)
theorem dE_ent (es : List En) (k : List UInt8) : ∀ i, (dE es k i).map En.ent = dK (es.map En.ent) k i
  | 0 => rfl
  | i + 1 => by
    show (partE (dE es k i) i (bitK k i)).map En.ent = partK (dK (es.map En.ent) k i) i (bitK k i)
    rw [partE_ent, dE_ent es k i]
theorem sibE_ent (es : List En) (k : List UInt8) (i : Nat) : (sibE es k i).map En.ent = sibK (es.map En.ent) k i := by
  unfold sibE sibK
  rw [partE_ent, dE_ent]
theorem dE_len (es : List En) (k : List UInt8) : ∀ i, (dE es k i).length ≤ es.length
  | 0 => Nat.le_refl _
  | i + 1 => Nat.le_trans (partE_len _ _ _) (dE_len es k i)
theorem dE_mem {es : List En} {k : List UInt8} {e : En} : ∀ {i : Nat}, e ∈ dE es k i → e ∈ es
  | 0, h => h
  | _ + 1, h => dE_mem (partE_mem h)
theorem dE_two {es : List En} {k : List UInt8} (hs : Sep 0 (es.map En.ent)) {i : Nat} (hi : i ≤ 256) (h : 2 ≤ (dE es k i).length) : i < 256 := by
  have h1 := dK_sep hs k i hi
  rw [← dE_ent] at h1
  have := h1.two (by rw [List.length_map]; exact h)
  omega
set_option maxHeartbeats 8000000 in
set_option maxRecDepth 100000 in
theorem end8_c (A : Option Addr) (c : Nat) (es : List En) (k : List UInt8) (w : World) (hA : EA w A es) (hn : es.length ≤ 100000) (hk : k.length = 32) (hs : Sep 0 (es.map En.ent)) :
    Calls Tryd.prog 12 #[.slice A es.length c, .agg (bA k)] w fun e w' => ∃ (A' : Option Addr) (c' D : Nat), e = .returned (.tuple #[.slice A' (dE es k D).length c', .int .i64 (D : Int)]) ∧ EA w' A' (dE es k D) ∧
      (∀ j, j < D → 2 ≤ (dE es k j).length) ∧ (dE es k D).length ≤ 1 ∧ D ≤ 256 ∧ Below w.heap.size w w' := by
  obtain ⟨X, hX⟩ : ∃ X, X = w.alloc (.cells (bA k) 24) := ⟨_, rfl⟩
  have hb0 : Below w.heap.size w X := by rw [hX]; exact (Below.refl _ _).alloc (Nat.le_refl _) _
  have hr0 : RowB X w.heap.size 24 k := by rw [hX]; exact RowB.alloc w k _
  have HX := Lib.hid hX
  have HB0 := Lib.hid hb0
  have HR0 := Lib.hid hr0
  have HA := Lib.hid (hA.below hb0)
  have HS := Lib.hid hs
  have HSZ : Hid (w.heap.size < X.heap.size) := by show _ < _; rw [hX]; simp
  clear hA hs hX hb0 hr0
  go_enter Tryd.func12, Tryd.ntmps12
  go_wp2_with fail
  rw [← HX.out]
  clear HX
  go_loopg [0, 6] 257 (fun gg l i wr => ∃ (d : Nat) (A' : Option Addr) (c' : Nat), l = .slice A' (dE es k d).length c' ∧ i = .int .i64 (d : Int) ∧ d ≤ 256 ∧ 257 - d = gg ∧ EA wr A' (dE es k d) ∧ Hid (∀ j, j < d → 2 ≤ (dE es k j).length) ∧ Below X.heap.size X wr)
  case atStart => exact ⟨0, A, c, rfl, rfl, by omega, by omega, HA.out, fun j hj => absurd hj (Nat.not_lt_zero j), Below.refl _ _⟩
  case round =>
    obtain ⟨d, A', c', rfl, rfl, hd, rfl, hE, HJ, hB⟩ := hrel
    have HE := Lib.hid hE
    have HB := Lib.hid hB
    have HL := Lib.hid (Nat.le_trans (dE_len es k d) hn)
    obtain ⟨L, hL⟩ : ∃ L, L = (dE es k d).length := ⟨_, rfl⟩
    rw [← hL]
    have HLL := Lib.hid hL
    clear hE hB
    by_cases h2 : 2 ≤ L
    · have h256 := dE_two HS.out hd (by rw [← hL]; exact h2)
      have dl : decide (1 < L) = true := decide_eq_true (by omega)
      have dl2 : decide (1 < (L : Int)) = true := decide_eq_true (by omega)
      have lk := (HR0.out.below HB.out).ldKey hk
      have hdi : (d : Int) < 256 := by omega
      clear hL
      go_wp2_with fail
      refine (bitK_c k hk d wr).mono ?_
      rintro _ w2 ⟨rfl, hb⟩
      have HB2 := Lib.hid (HB.out.trans (hb.mono HB.out.size))
      have HE2 := Lib.hid (HE.out.below hb)
      have HC := Lib.hid (part7_c A' c' (dE es k d) d (bitK k d) w2 HE2.out HL.out)
      rw [← HLL.out] at HC
      clear hb lk
      go_wp2_with fail
      refine HC.out.mono ?_
      rintro _ w3 ⟨v3, rfl, hO3, hB3⟩
      obtain ⟨A3, c3, rfl, hc3, hE3⟩ := hO3.ea (fun e he => (HE2.out.mem e (partE_mem he)).below hB3)
      have HE3 : Hid (EA w3 A3 (dE es k (d + 1))) := hE3
      have HB3 := Lib.hid (HB2.out.trans (hB3.mono HB2.out.size))
      have HL3 : Hid ((partE (dE es k d) d (bitK k d)).length = (dE es k (d + 1)).length) := rfl
      clear hO3 hc3 hE3 hB3 HC
      rw [HL3.out]
      go_wp2_with fail
      go_roundg (257 - (d + 1))
      case measure => omega
      case rel =>
        refine ⟨d + 1, A3, c3, rfl, by go_num, by omega, rfl, HE3.out, fun j hj => ?_, HB3.out⟩
        rcases Nat.eq_or_lt_of_le (Nat.lt_succ_iff.1 hj) with rfl | hj
        · rw [← HLL.out]; exact h2
        · exact HJ.out j hj
    · have dl : decide (1 < L) = false := decide_eq_false (by omega)
      have dl2 : decide (1 < (L : Int)) = false := decide_eq_false (by omega)
      clear hL
      go_wp2_with fail
      go_ret2
      exact ⟨A', c', d, by rw [← HLL.out]; rfl, HE.out, HJ.out, by rw [← HLL.out]; omega, hd, HB0.out.trans (HB.out.mono HB0.out.size)⟩
set_option maxHeartbeats 8000000 in
set_option maxRecDepth 100000 in
theorem sibling8_c (A : Option Addr) (c : Nat) (es : List En) (k : List UInt8) (D : Nat) (w : World) (hA : EA w A es) (hn : es.length ≤ 100000) (hk : k.length = 32) (hD : D < 256) :
    Calls Tryd.prog 22 #[.slice A es.length c, .agg (bA k), .int .i64 (D : Int)] w fun e w' => ∃ (A' : Option Addr) (c' : Nat), e = .returned (.slice A' (sibE es k D).length c') ∧ EA w' A' (sibE es k D) ∧ Below w.heap.size w w' := by
  obtain ⟨X, hX⟩ : ∃ X, X = w.alloc (.cells (bA k) 24) := ⟨_, rfl⟩
  have hb0 : Below w.heap.size w X := by rw [hX]; exact (Below.refl _ _).alloc (Nat.le_refl _) _
  have hr0 : RowB X w.heap.size 24 k := by rw [hX]; exact RowB.alloc w k _
  have HX := Lib.hid hX
  have HB0 := Lib.hid hb0
  have HR0 := Lib.hid hr0
  have HA := Lib.hid (hA.below hb0)
  clear hA hX hb0 hr0
  go_enter Tryd.func22, Tryd.ntmps22
  go_wp2_with fail
  rw [← HX.out]
  clear HX
  go_loopg [0, 7] D (fun gg l i wr => ∃ (d : Nat) (A' : Option Addr) (c' : Nat), l = .slice A' (dE es k d).length c' ∧ i = .int .i64 (d : Int) ∧ d ≤ D ∧ D - d = gg ∧ EA wr A' (dE es k d) ∧ Below X.heap.size X wr)
  case atStart => exact ⟨0, A, c, rfl, rfl, by omega, by omega, HA.out, Below.refl _ _⟩
  case round =>
    obtain ⟨d, A', c', rfl, rfl, hd, rfl, hE, hB⟩ := hrel
    have HE := Lib.hid hE
    have HB := Lib.hid hB
    have HL := Lib.hid (Nat.le_trans (dE_len es k d) hn)
    obtain ⟨L, hL⟩ : ∃ L, L = (dE es k d).length := ⟨_, rfl⟩
    rw [← hL]
    have HLL := Lib.hid hL
    have lk := (HR0.out.below HB.out).ldKey hk
    clear hE hB hL
    by_cases hlt : d < D
    · have dl : decide (d < D) = true := decide_eq_true hlt
      have hdi : (d : Int) < 256 := by omega
      go_wp2_with fail
      refine (bitK_c k hk d wr).mono ?_
      rintro _ w2 ⟨rfl, hb⟩
      have HB2 := Lib.hid (HB.out.trans (hb.mono HB.out.size))
      have HE2 := Lib.hid (HE.out.below hb)
      have HC := Lib.hid (part7_c A' c' (dE es k d) d (bitK k d) w2 HE2.out HL.out)
      rw [← HLL.out] at HC
      clear hb lk
      go_wp2_with fail
      refine HC.out.mono ?_
      rintro _ w3 ⟨v3, rfl, hO3, hB3⟩
      obtain ⟨A3, c3, rfl, hc3, hE3⟩ := hO3.ea (fun e he => (HE2.out.mem e (partE_mem he)).below hB3)
      have HE3 : Hid (EA w3 A3 (dE es k (d + 1))) := hE3
      have HB3 := Lib.hid (HB2.out.trans (hB3.mono HB2.out.size))
      have HL3 : Hid ((partE (dE es k d) d (bitK k d)).length = (dE es k (d + 1)).length) := rfl
      clear hO3 hc3 hE3 hB3 HC
      rw [HL3.out]
      go_wp2_with fail
      go_roundg (D - (d + 1))
      case measure => omega
      case rel => exact ⟨d + 1, A3, c3, rfl, by go_num, by omega, rfl, HE3.out, HB3.out⟩
    · obtain rfl : d = D := by omega
      have dl : decide (d < d) = false := decide_eq_false (by omega)
      have h01 := bitK_01 k d hD
      have HSB : Hid (∀ w, Calls Tryd.prog 26 #[.agg (bA k), .int .i64 (d : Int)] w fun e w' => e = .returned (.int .i64 (bitK k d)) ∧ Below w.heap.size w w') := fun w => bitK_c k hk d w
      have HCP : Hid (∀ w2, EA w2 A' (dE es k d) → Calls Tryd.prog 35 #[.slice A' L c', .int .i64 (d : Int), .int .i64 (1 - bitK k d)] w2 fun e w' => ∃ v, e = .returned v ∧ OwnE w' w2.heap.size v (sibE es k d) ∧ Below w2.heap.size w2 w') := fun w2 h => by
        rw [HLL.out]
        exact part7_c A' c' (dE es k d) d (1 - bitK k d) w2 h HL.out
      obtain ⟨q, hq⟩ : ∃ q, q = bitK k d := ⟨_, rfl⟩
      rw [← hq] at HSB HCP h01
      have q0 : 0 ≤ q := by omega
      have q1 : q ≤ 1 := by omega
      clear hq h01
      go_wp2_with fail
      refine (HSB.out wr).mono ?_
      rintro _ w2 ⟨rfl, hb⟩
      have HB2 := Lib.hid (HB.out.trans (hb.mono HB.out.size))
      have HE2 := Lib.hid (HE.out.below hb)
      have HC := Lib.hid (HCP.out w2 HE2.out)
      clear hb lk
      go_wp2_with fail
      refine HC.out.mono ?_
      rintro _ w3 ⟨v3, rfl, hO3, hB3⟩
      obtain ⟨A3, c3, rfl, hc3, hE3⟩ := hO3.ea (fun e he => (HE2.out.mem e (partE_mem he)).below hB3)
      have HE3 := Lib.hid hE3
      have HB3 := Lib.hid (HB2.out.trans (hB3.mono HB2.out.size))
      clear hO3 hc3 hE3 hB3 HC
      go_wp2_with fail
      go_ret
      exact ⟨A3, c3, rfl, HE3.out, HB0.out.trans (HB3.out.mono HB0.out.size)⟩
end Go.Proofs.YtpnpdllkcglpnaaDoor
