/- The walks of ShaBlocks, ShaEmpty, ShaPads. -/
import Derived.Test.YtkbipmhhiahkpaaDoorM
namespace Go.Proofs.YtkbipmhhiahkpaaDoor
open Go.RowKit

/-- The law returned true, and what was there is as it was. -/
def Yes (W : World) (e : Ending) (w' : World) : Prop := e = .returned (.bool true) ∧ Below W.heap.size W w'

set_option maxHeartbeats 2000000 in
set_option maxRecDepth 100000 in
theorem blocks_out (n : Int) (W : World) (hv : Vars W) (h1 : -9223372036854775808 ≤ n) (h2 : n ≤ 9223372036854775807) (h : n < 0 ∨ 1152921504606846976 < n) : Calls Tryd.prog 5 #[.int .i64 n] W (Yes W) := by
  have hb : blocksI n = 0 := if_pos h
  have HC := Lib.hid (blocks_c n W h1 h2)
  rw [hb] at HC
  have HV := Lib.hid hv
  clear hb hv
  rcases Classical.em (n < 0) with a | a
  · have d1 : decide (n < 0) = true := decide_eq_true a
    clear h
    go_enter Tryd.func5, Tryd.ntmps5
    go_wp2_with fail
    refine HC.out.mono ?_
    rintro e w1 ⟨rfl, rfl⟩
    go_wp2_with fail
    refine (alive_c W HV.out).mono ?_
    rintro e w2 ⟨rfl, hb2⟩
    go_wp2_with fail
    go_ret
    exact ⟨rfl, hb2⟩
  · have d1 : decide (n < 0) = false := decide_eq_false a
    have d2 : decide (1152921504606846976 < n) = true := decide_eq_true (h.resolve_left a)
    clear h
    go_enter Tryd.func5, Tryd.ntmps5
    go_wp2_with fail
    refine HC.out.mono ?_
    rintro e w1 ⟨rfl, rfl⟩
    go_wp2_with fail
    refine (alive_c W HV.out).mono ?_
    rintro e w2 ⟨rfl, hb2⟩
    go_wp2_with fail
    go_ret
    exact ⟨rfl, hb2⟩
set_option maxHeartbeats 2000000 in
set_option maxRecDepth 100000 in
theorem blocks_in (n : Int) (W : World) (hv : Vars W) (h0 : 0 ≤ n) (h1 : n ≤ 1152921504606846976) : Calls Tryd.prog 5 #[.int .i64 n] W (Yes W) := by
  have hb : blocksI n = (n + 72) / 64 := if_neg (by omega)
  have HC := Lib.hid (blocks_c n W (by omega) (by omega))
  rw [hb] at HC
  obtain ⟨m, hm⟩ : ∃ m, m = (n + 72) / 64 := ⟨_, rfl⟩
  rw [← hm] at HC
  have m1 : 1 ≤ m := by omega
  have m2 : m ≤ 18014398509481986 := by omega
  have d1 : decide (n < 0) = false := decide_eq_false (by omega)
  have d2 : decide (1152921504606846976 < n) = false := decide_eq_false (by omega)
  have d3 : decide (1 ≤ m) = true := decide_eq_true m1
  have d4 : decide (n + 9 ≤ 64 * m) = true := decide_eq_true (by omega)
  have d5 : decide (64 * (m - 1) < n + 9) = true := decide_eq_true (by omega)
  have HV := Lib.hid hv
  clear hb hv hm
  go_enter Tryd.func5, Tryd.ntmps5
  go_wp2_with fail
  refine HC.out.mono ?_
  rintro e w1 ⟨rfl, rfl⟩
  go_wp2_with fail
  refine (alive_c W HV.out).mono ?_
  rintro e w2 ⟨rfl, hb2⟩
  go_wp2_with fail
  go_ret
  exact ⟨rfl, hb2⟩
theorem blocks_w (n : Int) (W : World) (hv : Vars W) (h1 : -9223372036854775808 ≤ n) (h2 : n ≤ 9223372036854775807) : Calls Tryd.prog 5 #[.int .i64 n] W (Yes W) := by
  rcases Classical.em (n < 0 ∨ 1152921504606846976 < n) with h | h
  · exact blocks_out n W hv h1 h2 h
  · exact blocks_in n W hv (by omega) (by omega)

/-! ### ShaEmpty -/
theorem info22 : (Tryd.prog.info? 22).map (fun i => (i.zero, i.size, i.bytes)) = some (some (.slice none 0 0), 1, 24) := by kernel_rfl
theorem made_none (n : Nat) : madeCells #[Value.slice none 0 0] n = ((List.replicate n (⟨none, [], 0⟩ : Pc)).map Pc.val).toArray := by
  apply Array.ext_getElem?
  intro i
  rcases Nat.lt_or_ge i n with h | h
  · simp [madeCells, h, Pc.val, Nat.mod_one]
  · rw [Array.getElem?_eq_none (by rw [size_madeCells]; exact h), Array.getElem?_eq_none (by simpa using h)]
theorem cat_none (n : Nat) : catAll (List.replicate n (⟨none, [], 0⟩ : Pc)) = [] := by
  unfold catAll
  simp
set_option maxHeartbeats 2000000 in
set_option maxRecDepth 100000 in
theorem empty_w (n : Int) (W : World) (hv : Vars W) (h0 : 0 ≤ n) (h1 : n ≤ 255) : Calls Tryd.prog 7 #[.int .u8 n] W (Yes W) := by
  obtain ⟨k, rfl⟩ : ∃ k : Nat, n = k := ⟨n.toNat, by omega⟩
  obtain ⟨i0, hi, hz0, hz1, hz2⟩ := info_parts info22
  have hmk : ∀ w, (Instr.makeSlice 35 (.int .u8 (k : Int)) (.int .u8 (k : Int))).run Tryd.prog w = .ok (.slice (some ⟨w.heap.size, 0, none⟩) k k) (w.alloc (.cells ((List.replicate k (⟨none, [], 0⟩ : Pc)).map Pc.val).toArray 22)) := fun w => by
    have := run_make (P := Tryd.prog) w 35 22 i0 (.slice none 0 0) Tryd.underlying35 hi hz0 .u8 .u8 (k : Int) (k : Int) (by omega) (by omega) (by rw [hz2]; omega) (by omega)
    rw [this, hz1]
    simp [Value.cells, made_none]
  obtain ⟨Z, hZ⟩ : ∃ Z, Z = ((List.replicate k (⟨none, [], 0⟩ : Pc)).map Pc.val).toArray := ⟨_, rfl⟩
  simp only [← hZ] at hmk
  have HZ := Lib.hid hZ
  have HV := Lib.hid hv
  clear hZ hv hi hz0 hz1 hz2
  have hq := eq26 (sumL []) (sumL_len _)
  go_enter Tryd.func7, Tryd.ntmps7
  go_wp2_with fail
  refine (alive_c W HV.out).mono ?_
  rintro e w1 ⟨rfl, hb1⟩
  have HB1 := Lib.hid hb1
  clear hb1
  go_wp2_with fail
  have hsl : SL (w1.alloc (.cells Z 22)) (some ⟨w1.heap.size, 0, none⟩) (List.replicate k ⟨none, [], 0⟩) := by
    rw [HZ.out]
    exact sl_made w1 _ 22 fun x hx => by
      obtain ⟨_, rfl⟩ := List.mem_replicate.1 hx
      exact ⟨Nat.le_refl _, BA_nil _ _⟩
  have hv1 : Vars (w1.alloc (.cells Z 22)) := (HV.out.below HB1.out).below ((Below.refl _ _).alloc (Nat.le_refl _) _)
  have hj := join_c (some ⟨w1.heap.size, 0, none⟩) k _ _ hsl hv1.kt hv1.it (by rw [cat_none]; decide) (by simp; omega)
  rw [cat_none, List.length_replicate] at hj
  refine hj.mono ?_
  rintro e w2 ⟨rfl, hb2⟩
  have HB2 : Hid (Below W.heap.size W w2) := (HB1.out.alloc HB1.out.size _).trans (hb2.mono (by have := HB1.out.size; simp; omega))
  clear hb2 hsl hv1 hj hmk
  go_wp2_with fail
  have hv2 : Vars w2 := HV.out.below HB2.out
  refine (sum_c none 0 [] w2 (BA_nil _ _) (Nat.le_refl _) hv2.kt hv2.it (by simp)).mono ?_
  rintro e w3 ⟨rfl, hb3⟩
  have HB3 : Hid (Below W.heap.size W w3) := HB2.out.trans (hb3.mono HB2.out.size)
  clear hb3 hv2
  go_wp2_with fail
  go_ret
  exact ⟨rfl, HB3.out⟩

/-! ### ShaPads -/
set_option maxHeartbeats 2000000 in
set_option maxRecDepth 100000 in
theorem pads_long (A : Option Addr) (c : Nat) (l : List UInt8) (W : World) (hv : Vars W) (h : 2000 < l.length) : Calls Tryd.prog 4 #[.slice A l.length c] W (Yes W) := by
  have d1 : decide (2000 < l.length) = true := decide_eq_true h
  have d2 : decide (2000 < (l.length : Int)) = true := decide_eq_true (by omega)
  have HV := Lib.hid hv
  clear hv
  go_enter Tryd.func4, Tryd.ntmps4
  go_wp2_with fail
  refine (alive_c W HV.out).mono ?_
  rintro e w2 ⟨rfl, hb2⟩
  go_wp2_with fail
  go_ret
  exact ⟨rfl, hb2⟩
set_option maxHeartbeats 2000000 in
set_option maxRecDepth 100000 in
theorem pads_short (A : Option Addr) (c : Nat) (l : List UInt8) (W : World) (hA : BA W A l) (hc : l.length ≤ c) (hv : Vars W) (h : l.length ≤ 2000) : Calls Tryd.prog 4 #[.slice A l.length c] W (Yes W) := by
  have d1 : decide (2000 < l.length) = false := decide_eq_false (by omega)
  have d2 : decide (2000 < (l.length : Int)) = false := decide_eq_false (by omega)
  have HV := Lib.hid hv
  have HA := Lib.hid hA
  obtain ⟨N, hN⟩ : ∃ N, N = (l.length + 72) / 64 := ⟨_, rfl⟩
  have HPL : Hid ((padL l).length = 64 * N) := by show _ = _; rw [padL_len, hN]
  have HBl : Hid (∀ w, Calls Tryd.prog 16 #[.int .i64 (l.length : Int)] w fun e w' => e = .returned (.int .i64 (N : Int)) ∧ w = w') := fun w => by rw [hN]; exact blocks_nat l.length w (by omega)
  have hN2 : N ≤ 40 := by omega
  clear hv hA hN
  go_enter Tryd.func4, Tryd.ntmps4
  go_wp2_with fail
  refine (ppad_c A l c W HA.out hc (by omega)).mono ?_
  rintro e w1 ⟨v, rfl, hO, hb1⟩
  obtain ⟨A1, c1, rfl, hc1, hba1⟩ := hO.any
  rw [HPL.out] at hc1 ⊢
  have HB1 := Lib.hid hb1
  have HBA1 := Lib.hid hba1
  clear hb1 hba1 hO
  go_wp2_with fail
  refine (alive_c w1 (HV.out.below HB1.out)).mono ?_
  rintro e w2 ⟨rfl, hb2⟩
  have HBA2 := Lib.hid (HBA1.out.below hb2)
  have HB2 : Hid (Below W.heap.size W w2) := HB1.out.trans (hb2.mono HB1.out.size)
  clear hb2
  go_wp2_with fail
  refine (pad_c A c l w2 (HA.out.below HB2.out) (by omega)).mono ?_
  rintro e w3 ⟨v3, rfl, hO3, hb3⟩
  obtain ⟨A3, c3, rfl, hc3, hba3⟩ := hO3.any
  rw [HPL.out] at hc3 ⊢
  have HBA3 := Lib.hid (HBA2.out.below hb3)
  have HBA4 := Lib.hid hba3
  have HB3 : Hid (Below W.heap.size W w3) := HB2.out.trans (hb3.mono HB2.out.size)
  clear hb3 hba3 hO3
  go_wp2_with fail
  refine (same_yes A1 A3 c1 c3 (64 * N) (padL l) w3 HPL.out HBA3.out HBA4.out (by omega)).mono ?_
  rintro e w4 ⟨rfl, hb4⟩
  have HB4 : Hid (Below W.heap.size W w4) := HB3.out.trans (hb4.mono HB3.out.size)
  clear hb4
  go_wp2_with fail
  refine (HBl.out _).mono ?_
  rintro e w5 ⟨rfl, rfl⟩
  have d3 : (((64 * N : Nat) : Int) == 64 * (N : Int)) = true := by rw [beq_iff_eq]; omega
  go_wp2_with fail
  go_ret
  exact ⟨rfl, HB4.out⟩
theorem pads_w (A : Option Addr) (c : Nat) (l : List UInt8) (W : World) (hA : BA W A l) (hc : l.length ≤ c) (hv : Vars W) : Calls Tryd.prog 4 #[.slice A l.length c] W (Yes W) := by
  rcases Nat.lt_or_ge 2000 l.length with h | h
  · exact pads_long A c l W hv h
  · exact pads_short A c l W hA hc hv h
end Go.Proofs.YtkbipmhhiahkpaaDoor
