import Derived.Test.YtkejfdgmdjfdoaaGreatDoorLa
import Derived.Test.YtkejfdgmdjfdoaaGreatDoorM1
namespace Go.Proofs.YtkejfdgmdjfdoaaGreatDoor
set_option linter.unusedSimpArgs false
set_option linter.unusedVariables false
set_option maxHeartbeats 16000000
set_option maxRecDepth 100000
open Go.RowKit
theorem bld8 (w : World) (a b c d e f g h : UInt32) : bldA 235 w #[(0, u a), (1, u b), (2, u c), (3, u d), (4, u e), (5, u f), (6, u g), (7, u h)] = .ok (.value (.agg (uA [a, b, c, d, e, f, g, h]))) w := by kernel_rfl
theorem bldInit (w : World) : bldA 235 w #[(0, .int .u32 1779033703), (1, .int .u32 3144134277), (2, .int .u32 1013904242), (3, .int .u32 2773480762), (4, .int .u32 1359893119), (5, .int .u32 2600822924), (6, .int .u32 528734635), (7, .int .u32 1541459225)] = .ok (.value (.agg (uA init8.list))) w := by kernel_rfl
def w3 (w : World) : World := ((w.alloc (.cells (bA z26) 46)).alloc (.cells (uA init8.list) 235)).alloc (.cells (uA kTab) 234)
theorem w3_size (w : World) : (w3 w).heap.size = w.heap.size + 3 := by simp [w3]
theorem w3_keep (w : World) : Keep (fun _ => False) w (w3 w) := (((Keep.refl _ w).alloc _).alloc _).alloc _
theorem w3_heap (w : World) : (w3 w).heap[w.heap.size]? = some (.cells (bA z26) 46 (0, 0)) ∧ (w3 w).heap[w.heap.size + 1]? = some (.cells (uA init8.list) 235 (0, 0)) ∧ (w3 w).heap[w.heap.size + 1 + 1]? = some (.cells (uA kTab) 234 (0, 0)) := by
 have n1 := heap_alloc_new (w.alloc (.cells (bA z26) 46)) (.cells (uA init8.list) 235)
 have n2 := heap_alloc_new ((w.alloc (.cells (bA z26) 46)).alloc (.cells (uA init8.list) 235)) (.cells (uA kTab) 234)
 rw [show (w.alloc (.cells (bA z26) 46)).heap.size = w.heap.size + 1 by simp] at n1
 rw [show ((w.alloc (.cells (bA z26) 46)).alloc (.cells (uA init8.list) 235)).heap.size = w.heap.size + 1 + 1 by simp] at n2
 unfold w3
 refine ⟨?_, ?_, n2⟩
 ·rw [Below.heap_alloc _ _ _ (by simp; omega), Below.heap_alloc _ _ _ (by simp)]; exact heap_alloc_new w _
 ·rw [Below.heap_alloc _ _ _ (by simp)]; exact n1
theorem cells8 {w : World} {b : Nat} {s : S8} (h : w.heap[b]? = some (.cells (uA s.list) 235 (0, 0))) : w.cell? ⟨b, 0, none⟩ = some (u s.a) ∧ w.cell? ⟨b, 1, none⟩ = some (u s.b) ∧ w.cell? ⟨b, 2, none⟩ = some (u s.c) ∧ w.cell? ⟨b, 3, none⟩ = some (u s.d) ∧
  w.cell? ⟨b, 4, none⟩ = some (u s.e) ∧ w.cell? ⟨b, 5, none⟩ = some (u s.f) ∧ w.cell? ⟨b, 6, none⟩ = some (u s.g) ∧ w.cell? ⟨b, 7, none⟩ = some (u s.h) := by
 refine ⟨?_, ?_, ?_, ?_, ?_, ?_, ?_, ?_⟩ <;> (rw [cell_of_cells h]; rfl)
def outq (s : S8) (i : Nat) : List UInt8 := (List.range 32).map fun j => if j < i then (outB s).getD j 0 else 0
theorem outq_len (s : S8) (i : Nat) : (outq s i).length = 32 := by simp [outq]
theorem outq_zero (s : S8) : outq s 0 = z26 := outp_zero s
theorem outq_end (s : S8) : outq s 32 = outB s := outp_end s
theorem outq_step (s : S8) (i : Nat) (h : i < 32) : (outq s i).set i ((outB s).getD i 0) = outq s (i + 1) := by
 apply List.ext_getElem?
 intro t
 rw [List.getElem?_set]
 by_cases e : i = t
 ·subst e
  rw [if_pos rfl, outq_len, if_pos h]
  simp only [outq, List.getElem?_map, List.getElem?_range h, Option.map_some]
  rw [if_pos (by omega)]
 ·rw [if_neg e]
  rcases Nat.lt_or_ge t 32 with h2 | h2
  ·simp only [outq, List.getElem?_map, List.getElem?_range h2, Option.map_some]
   by_cases h3 : t < i
   ·rw [if_pos h3, if_pos (by omega)]
   ·rw [if_neg h3, if_neg (by omega)]
  ·rw [List.getElem?_eq_none (by simpa [outq] using h2), List.getElem?_eq_none (by simpa [outq] using h2)]
theorem shr_toNat (x : UInt32) (n : Nat) (h : n < 32) : (x >>> UInt32.ofNat n).toNat = x.toNat / 2 ^ n := by
 rw [UInt32.toNat_shiftRight, Nat.shiftRight_eq_div_pow]
 congr 2
 simp; omega
theorem blks_step (P sub : List UInt8) (j : Nat) (hs : sub = (P.drop (64 * j)).take 64) : (blks P j).add (rounds (blks P j) (sched (fnOf sub)) 64) = blks P (j + 1) := by
 rw [blks]
 show blk (blks P j) (fnOf sub) = _
 refine blk_congr _ _ _ fun t ht => ?_
 rw [hs, fnOf]
 simp [List.getD_eq_getElem?_getD, ht, List.getElem?_drop]
theorem rsum_c (A : Option Addr) (c : Nat) (l : List UInt8) (w : World) (hA : BA w A l) (hl : l.length ≤ 1000000000) :
  Calls Tryz.prog 91 #[.slice A l.length c] w fun e w' => e = .returned (.agg (bA (sumL l))) ∧ Below w.heap.size w w' := by
 have HA : Hid (BA (w3 w) A l) := hA.below ((w3_keep w).below (Nat.le_refl _) fun _ h => h.elim)
 have bi := bldInit
 have st0 := fun ob => stA_two w ob (uA z39) (uA init8.list) (t := 235) info39 rfl (uA_one _)
 clear hA
 go_enter Tryz.func91, Tryz.ntmps91
 go_wp2_with fail
 refine (primes_c _).mono ?_
 rintro e w0 ⟨rfl, hw0⟩
 have hw : w0 = w3 w := hw0
 subst hw
 clear hw0 bi st0
 go_wp2_with fail
 refine (pad_c A c l (w3 w) HA.out hl).mono ?_
 rintro e w4 ⟨v, rfl, hO, hB⟩
 obtain ⟨P, hP⟩ : ∃ P, P = padL l := ⟨_, rfl⟩
 obtain ⟨M, hM⟩ : ∃ M, M = (l.length + 72) / 64 := ⟨_, rfl⟩
 have hPl : P.length = 64 * M := by rw [hP, padL_len, hM]
 rw [← hP] at hO
 obtain ⟨g, c5, rfl, hc5, hc6, hg, hba⟩ := hO.ba (by rw [hPl]; omega)
 rw [hPl] at hc5 ⊢
 have HP := Lib.hid hP
 have HM := Lib.hid hM
 have HPl := Lib.hid hPl
 have HBA := Lib.hid hba
 obtain ⟨r0, r1, r2⟩ := w3_heap w
 have HK4 : Hid (Keep (fun _ => False) w w4) := (w3_keep w).trans (Keep.of_below hB)
 have HRES := Lib.hid ((Keep.of_below (L := fun _ => False) hB).heap r0 fun h => h)
 have HST := Lib.hid ((Keep.of_below (L := fun _ => False) hB).heap r1 fun h => h)
 have HKT := Lib.hid ((Keep.of_below (L := fun _ => False) hB).heap r2 fun h => h)
 have hg3 : w.heap.size + 3 ≤ g := by rw [w3_size] at hg; exact hg
 have hs4 : w.heap.size + 3 ≤ w4.heap.size := by have := hB.size; rw [w3_size] at this; exact this
 have hMl : M ≤ 20000000 := by omega
 unfold maxLen at hc6
 clear hP hM hPl hba hB hO hg r0 r1 r2
 go_wp2_with fail
 go_loopg [6] M (fun gg from_ wr => ∃ j : Nat, from_ = .int .i64 (64 * (j : Int)) ∧ j ≤ M ∧ M - j = gg ∧ wr.heap[w.heap.size + 1]? = some (.cells (uA (blks P j).list) 235 (0, 0)) ∧ Keep (fun i => i = w.heap.size + 1) w4 wr)
 case atStart => exact ⟨0, rfl, by omega, by omega, HST.out, Keep.refl _ _⟩
 case round =>
  clear HST
  obtain ⟨j, rfl, hj, rfl, hS, hK⟩ := hrel
  have HS := Lib.hid hS
  have HK := Lib.hid hK
  clear hS hK
  by_cases hlt : j < M
  ·have hd : decide ((64 : Int) * (j : Int) < ((64 * M : Nat) : Int)) = true := by rw [decide_eq_true_eq]; omega
   have hd1 : decide ((64 : Int) * (j : Int) < 64 * (M : Int)) = true := by rw [decide_eq_true_eq]; omega
   obtain ⟨sub, hsub⟩ : ∃ x, x = (P.drop (64 * j)).take 64 := ⟨_, rfl⟩
   have HSB := Lib.hid hsub
   have hsb : BA wr (some ⟨g, 64 * j, none⟩) sub := by rw [hsub]; exact (HBA.out.keep HK.out (by omega)).sub _ _
   have hsl : sub.length = 64 := by rw [hsub]; exact sub_len HPl.out hlt
   have HSb := Lib.hid hsb
   have HSl := Lib.hid hsl
   have hsl2 : ∀ v, (Instr.sliceAt 31 (.slice (some ⟨g, 0, none⟩) (64 * M) c5) (some (.int .i64 (64 * (j : Int)))) (some (.int .i64 (64 * (j : Int) + 64))) none).run Tryz.prog v = .ok (.slice (some ⟨g, 64 * j, none⟩) 64 (c5 - 64 * j)) v := fun v => by
    have e22 : Tryz.prog.elem 31 = 5 := by kernel_rfl
    have ht : Tryz.prog.underlying 31 = some (.slice (Tryz.prog.elem 31)) := by rw [e22]; exact Tryz.underlying31
    rw [run_sliceAt_slice v 31 _ _ _ _ ht, run_slice_lh v 31 _ _ _ ht .i64 .i64 _ _ (by omega) (by omega) (by omega), e22, size5]
    have n1 : ((64 : Int) * (j : Int)).toNat = 64 * j := by omega
    have n2 : ((64 : Int) * (j : Int) + 64).toNat = 64 * j + 64 := by omega
    simp [sliced, n1, n2, show ¬ c5 = 64 * j by omega, add_none]
   clear hsub hsb hsl
   go_wp2_with fail
   refine (sched_c g (64 * j) (c5 - 64 * j) sub wr HSl.out HSb.out).mono ?_
   rintro e w5 ⟨v5, rfl, hO5, hB5⟩
   obtain ⟨Wl, hWl⟩ : ∃ x, x = sched (fnOf sub) := ⟨_, rfl⟩
   rw [← hWl] at hO5
   have hWll : Wl.length = 64 := by rw [hWl, sched_len]
   obtain ⟨A7, c7, rfl, hc7, hW7⟩ := hO5.row
   rw [hWll] at hc7 ⊢
   obtain ⟨S0, hS0⟩ : ∃ x, x = blks P j := ⟨_, rfl⟩
   obtain ⟨g7, rfl, _⟩ : ∃ g7, A7 = some ⟨g7, 0, none⟩ ∧ True := by
    obtain ⟨g7, e, _⟩ := hW7 0 (Wl.getD 0 0) (by simp [List.getD, List.getElem?_eq_getElem (show 0 < Wl.length by omega)])
    exact ⟨g7, e, trivial⟩
   have hcw : ∀ t, t < 64 → w5.cell? ⟨g7, t, none⟩ = some (u (Wl.getD t 0)) := fun t ht => by
    obtain ⟨g2, e, h⟩ := hW7 t (Wl.getD t 0) (by simp [List.getD, List.getElem?_eq_getElem (show t < Wl.length by omega)])
    cases e; exact h
   have HK5 : Hid (Keep (fun i => i = w.heap.size + 1) w4 w5) := HK.out.trans (Keep.of_below hB5)
   have hs5 : w5.heap[w.heap.size + 1]? = some (.cells (uA S0.list) 235 (0, 0)) := by rw [hS0]; exact (Keep.of_below (L := fun _ => False) hB5).heap HS.out fun h => h
   have ld5 : ldA 235 w5 (.pointer (some ⟨w.heap.size + 1, 0, none⟩)) = .ok (.value (.agg (uA S0.list))) w5 := ldA_row hs5 Tryz.underlying235 (by rw [uS_size]; exact info39)
   have st5 := stA_new (t := 235) w5 (uA z39) (uA S0.list) (by rw [uS_size]; exact info39) rfl (uA_one _)
   have HS5 := Lib.hid hs5
   have HCW := Lib.hid hcw
   have HWl := Lib.hid hWl
   have HS0 := Lib.hid hS0
   have sz5 : w.heap.size + 3 ≤ w5.heap.size := by have := HK5.out.size; omega
   have hg75 : g7 < w5.heap.size := lt_of_cell (hcw 0 (by decide))
   clear hs5 hB5 hW7 hWl hWll hS0 hO5 hd hd1 hsl2 hcw
   go_wp2_with fail
   have hV : (w5.alloc (.cells (uA S0.list) 235)).heap[w5.heap.size]? = some (.cells (uA (rounds S0 Wl 0).list) 235 (0, 0)) := heap_alloc_new w5 _
   have hKo : Keep (fun _ => False) w5 (w5.alloc (.cells (uA S0.list) 235)) := (Keep.refl _ w5).alloc _
   have hso : (w5.alloc (.cells (uA S0.list) 235)).heap.size = w5.heap.size + 1 := by simp
   obtain ⟨wo, hwo⟩ : ∃ wo, wo = w5.alloc (.cells (uA S0.list) 235) := ⟨_, rfl⟩
   rw [← hwo] at hV hKo hso ⊢
   have HV := Lib.hid hV
   have HKo := Lib.hid hKo
   have HSo := Lib.hid hso
   clear hV hKo hwo ld5 st5 hso
   go_loopg [9] 64 (fun gg i wi => ∃ t : Nat, i = .int .i64 t ∧ t ≤ 64 ∧ 64 - t = gg ∧ wi.heap[w5.heap.size]? = some (.cells (uA (rounds S0 Wl t).list) 235 (0, 0)) ∧ Keep (fun i => i = w5.heap.size) wo wi)
   case atStart => exact ⟨0, rfl, by omega, by omega, HV.out, Keep.refl _ _⟩
   case round =>
    clear HV
    obtain ⟨t, rfl, ht, rfl, hR, hGi⟩ := hrel
    have HR := Lib.hid hR
    have HGi := Lib.hid hGi
    clear hR hGi
    have HK5i : Hid (Keep (fun i => i = w5.heap.size) w5 wr) := (HKo.out.mono fun _ h => h.elim).trans HGi.out
    by_cases htl : t < 64
    ·have hd : decide ((t : Int) < 64) = true := by rw [decide_eq_true_eq]; omega
     have hcw : wr.cell? ⟨g7, t, none⟩ = some (u (Wl.getD t 0)) := HK5i.out.cellAt (HCW.out t htl) (by show ¬ g7 = _; omega)
     have hck : wr.cell? ⟨w.heap.size + 1 + 1, t, none⟩ = some (u (kTab.getD t 0)) := by
      rw [cell_of_cells (HK5i.out.heap (HK5.out.heap HKT.out (by omega)) (by omega))]
      exact uA_at kTab t htl
     obtain ⟨R, hR⟩ : ∃ x, x = rounds S0 Wl t := ⟨_, rfl⟩
     obtain ⟨KK, hKK⟩ : ∃ x, x = kTab.getD t 0 := ⟨_, rfl⟩
     obtain ⟨WW, hWW⟩ : ∃ x, x = Wl.getD t 0 := ⟨_, rfl⟩
     have HRn : Hid (rounds S0 Wl (t + 1) = R.rnd KK WW) := by show _ = _; rw [rounds, hR, hKK, hWW]
     have hRs := HR.out
     rw [← hR] at hRs
     rw [← hKK] at hck
     rw [← hWW] at hcw
     obtain ⟨a0, a1, a2, a3, a4, a5, a6, a7⟩ := cells8 hRs
     have HRs := Lib.hid hRs
     have p1 : (0 : Int) ≤ (t : Int) := by omega
     have p2 : (t : Int) < 64 := by omega
     have p3 : (t : Int) < (c7 : Int) := by omega
     clear hRs hR hKK hWW
     go_wp2_with fail
     refine wp_region_quiet_lit (by kernel_rfl) (by kernel_rfl) ?_
     iterate 4 (go_big_quiet_step (fail))
     go_big_quiet_step ((go_at_call 133; exact Calls.quiet_of_same (turn_any _ 6 (by decide) _)))
     iterate 2 (go_big_quiet_step (fail))
     go_big_quiet_step ((go_at_call 133; exact Calls.quiet_of_same (turn_any _ 11 (by decide) _)))
     iterate 3 (go_big_quiet_step (fail))
     go_big_quiet_step ((go_at_call 133; exact Calls.quiet_of_same (turn_any _ 25 (by decide) _)))
     repeat (go_big_quiet_step (fail))
     refine wpQuiet_nil ?_
     rintro _ ⟨nq, rfl⟩
     have hD : Drawn wr (wr.drewN nq) := (Drawn.refl wr).drewN nq
     obtain ⟨wq, hwq⟩ : ∃ wq, wq = wr.drewN nq := ⟨_, rfl⟩
     rw [← hwq] at hD ⊢
     clear hwq a0 a1 a2 a3 a4 a5 a6 a7 hck hcw
     have hRq : wq.heap[w5.heap.size]? = some (.cells (uA R.list) 235 (0, 0)) := by rw [hD.heap]; exact HRs.out
     obtain ⟨a0, a1, a2, a3, a4, a5, a6, a7⟩ := cells8 hRq
     have HD := Lib.hid hD
     clear hD hRq
     go_wp2_with fail
     refine wp_region_quiet_lit (by kernel_rfl) (by kernel_rfl) ?_
     iterate 2 (go_big_quiet_step (fail))
     go_big_quiet_step ((go_at_call 133; exact Calls.quiet_of_same (turn_any _ 2 (by decide) _)))
     iterate 2 (go_big_quiet_step (fail))
     go_big_quiet_step ((go_at_call 133; exact Calls.quiet_of_same (turn_any _ 13 (by decide) _)))
     iterate 3 (go_big_quiet_step (fail))
     go_big_quiet_step ((go_at_call 133; exact Calls.quiet_of_same (turn_any _ 22 (by decide) _)))
     repeat (go_big_quiet_step (fail))
     refine wpQuiet_nil ?_
     rintro _ ⟨nq2, rfl⟩
     have hD2 : Drawn wr (wq.drewN nq2) := HD.out.drewN nq2
     obtain ⟨wz, hwz⟩ : ∃ wz, wz = wq.drewN nq2 := ⟨_, rfl⟩
     rw [← hwz] at hD2 ⊢
     clear hwz a0 a1 a2 a3 a4 a5 a6 a7
     have hRz : wz.heap[w5.heap.size]? = some (.cells (uA R.list) 235 (0, 0)) := by rw [hD2.heap]; exact HRs.out
     obtain ⟨a0, a1, a2, a3, a4, a5, a6, a7⟩ := cells8 hRz
     have bl := bld8
     have stz : ∀ x0 x1 x2 x3 x4 x5 x6 x7 : UInt32, stA 235 wz (.pointer (some ⟨w5.heap.size, 0, none⟩)) (.agg (uA [x0, x1, x2, x3, x4, x5, x6, x7])) = .ok .skip (wz.setRow w5.heap.size (uA [x0, x1, x2, x3, x4, x5, x6, x7])) := fun _ _ _ _ _ _ _ _ => stA_row hRz info39 rfl (uA_one _)
     have HD2 := Lib.hid hD2
     have HRz := Lib.hid hRz
     clear hD2 hRz
     go_wp2_with fail
     go_roundg (64 - (t + 1))
     case measure => omega
     case rel => exact ⟨t + 1, by go_num, by omega, rfl, by rw [HRn.out]; exact setRow_heap wz _ _ _ _ _ HRz.out, (HGi.out.trans (HD2.out.keep _)).trans (Keep.row _ _ _)⟩
    ·obtain rfl : t = 64 := by omega
     have hd : decide (((64 : Nat) : Int) < 64) = false := by decide
     obtain ⟨R, hR⟩ : ∃ x, x = rounds S0 Wl 64 := ⟨_, rfl⟩
     have hRs := HR.out
     rw [← hR] at hRs
     have hSt : wr.heap[w.heap.size + 1]? = some (.cells (uA (addl S0 R 0)) 235 (0, 0)) := HK5i.out.heap HS5.out (by omega)
     have hKr : Keep (fun i => i = w.heap.size + 1) w4 wr := HK5.out.step HK5i.out fun i hi => .inr (by have := HK5.out.size; omega)
     have HRR := Lib.hid hR
     have HRs := Lib.hid hRs
     have HSt := Lib.hid hSt
     have HKr := Lib.hid hKr
     clear hR hRs hSt hKr HR
     go_wp2_with fail
     go_loopg [12] 8 (fun gg i wz => ∃ k : Nat, i = .int .i64 k ∧ k ≤ 8 ∧ 8 - k = gg ∧ wz.heap[w.heap.size + 1]? = some (.cells (uA (addl S0 R k)) 235 (0, 0)) ∧ wz.heap[w5.heap.size]? = some (.cells (uA R.list) 235 (0, 0)) ∧ Keep (fun i => i = w.heap.size + 1) w4 wz)
     case atStart => exact ⟨0, rfl, by omega, by omega, HSt.out, HRs.out, HKr.out⟩
     case round =>
      clear HSt HRs HKr HK5i HGi
      obtain ⟨k, rfl, hk, rfl, hrow, hrr, hkp⟩ := hrel
      by_cases hlt8 : k < 8
      ·have hd8 : decide ((k : Int) < 8) = true := by rw [decide_eq_true_eq]; omega
       have hc : wr.cell? ⟨w.heap.size + 1, k, none⟩ = some (u (S0.list.getD k 0)) := by rw [cell_of_cells hrow, uA_at _ _ (by rw [addl_len]; omega), addl_at _ _ _ hlt8]
       have hc2 : wr.cell? ⟨w5.heap.size, k, none⟩ = some (u (R.list.getD k 0)) := by rw [cell_of_cells hrr, uA_at _ _ (by rw [s8_len]; omega)]
       have hf : wr.frozen? ⟨w.heap.size + 1, k, none⟩ = false := frozen_of_row wr _ _ _ _ hrow
       obtain ⟨XX, hXX⟩ : ∃ x, x = R.list.getD k 0 := ⟨_, rfl⟩
       obtain ⟨SS, hSS⟩ : ∃ x, x = S0.list.getD k 0 := ⟨_, rfl⟩
       have HN : Hid ((wr.setCell ⟨w.heap.size + 1, k, none⟩ (u (SS + XX))).heap[w.heap.size + 1]? = some (.cells (uA (addl S0 R (k + 1))) 235 (0, 0))) := by
        show _ = _
        rw [set_row hrow, uA_set, hSS, hXX, addl_step S0 R k hlt8]
       have HN2 : Hid ((wr.setCell ⟨w.heap.size + 1, k, none⟩ (u (SS + XX))).heap[w5.heap.size]? = some (.cells (uA R.list) 235 (0, 0))) := set_keep hrr (by omega)
       have HM2 : Hid (Keep (fun i => i = w.heap.size + 1) w4 (wr.setCell ⟨w.heap.size + 1, k, none⟩ (u (SS + XX)))) := hkp.step (Keep.cell _ _ _) fun i hi => .inl hi
       rw [← hSS] at hc
       rw [← hXX] at hc2
       have p1 : (0 : Int) ≤ (k : Int) := by omega
       have p2 : (k : Int) < 8 := by omega
       clear hXX hSS hrow hrr hkp
       go_wp2_with fail
       refine wp_region_drawn_tail 8 (by kernel_rfl) (by kernel_rfl) ?_
       simp only [List.take_succ_cons, List.take_zero, List.drop_succ_cons, List.drop_zero]
       repeat (go_big_quiet_step (fail))
       refine wpQuiet_nil ?_
       rintro _ ⟨nq3, rfl⟩
       go_wp2_with fail
       go_roundg (8 - (k + 1))
       case measure => omega
       case rel => exact ⟨k + 1, by go_num, by omega, rfl, HN.out, HN2.out, HM2.out.drewN nq3⟩
      ·obtain rfl : k = 8 := by omega
       have hd8 : decide (((8 : Nat) : Int) < 8) = false := by decide
       rw [addl_end, HRR.out, HS0.out, HWl.out, blks_step P sub j HSB.out] at hrow
       have HN := Lib.hid hrow
       have HM2 := Lib.hid hkp
       clear hrow hrr hkp
       go_wp2_with fail
       go_roundg (M - (j + 1))
       case measure => omega
       case rel => exact ⟨j + 1, by congr 1, by omega, rfl, HN.out, HM2.out⟩
  ·obtain rfl : j = M := by omega
   have hd : decide ((64 : Int) * (j : Int) < 64 * (j : Int)) = false := by rw [decide_eq_false_iff_not]; omega
   obtain ⟨S, hS⟩ : ∃ x, x = blks P j := ⟨_, rfl⟩
   have hst := HS.out
   rw [← hS] at hst
   have HSS := Lib.hid hS
   have HST := Lib.hid hst
   clear hS hst HS
   go_wp2_with fail
   have hr1 : (wr.alloc (.cells (bA z26) 46)).heap[wr.heap.size]? = some (.cells (bA (outq S 0)) 46 (0, 0)) := by rw [outq_zero]; exact heap_alloc_new wr _
   have hk1 : Keep (fun i => i = w.heap.size + 1) w4 (wr.alloc (.cells (bA z26) 46)) := HK.out.alloc _
   have hs1 : (wr.alloc (.cells (bA z26) 46)).heap[w.heap.size + 1]? = some (.cells (uA S.list) 235 (0, 0)) := by rw [Below.heap_alloc _ _ _ (lt_of_heap HST.out)]; exact HST.out
   have hszr : w.heap.size + 3 ≤ wr.heap.size := by have := HK.out.size; omega
   have HSZ6 : Hid (w4.heap.size ≤ wr.heap.size) := HK.out.size
   have HR1 := Lib.hid hr1
   have HK1 := Lib.hid hk1
   have HS1 := Lib.hid hs1
   clear hr1 hk1 hs1 HST HK
   obtain ⟨w6, rfl⟩ : ∃ w6 : World, w6 = wr := ⟨_, rfl⟩
   go_loopg [14] 32 (fun gg i wz => ∃ k : Nat, i = .int .i64 k ∧ k ≤ 32 ∧ 32 - k = gg ∧ wz.heap[w6.heap.size]? = some (.cells (bA (outq S k)) 46 (0, 0)) ∧ wz.heap[w.heap.size + 1]? = some (.cells (uA S.list) 235 (0, 0)) ∧ Keep (fun i => i = w.heap.size + 1) w4 wz)
   case atStart => exact ⟨0, rfl, by omega, by omega, HR1.out, HS1.out, HK1.out⟩
   case round =>
    clear HR1 HK1 HS1
    obtain ⟨k, rfl, hk, rfl, hrow, hst, hkp⟩ := hrel
    by_cases hlt : k < 32
    ·have hd2 : decide ((k : Int) < 32) = true := by rw [decide_eq_true_eq]; omega
     obtain ⟨X, hX⟩ : ∃ X, X = S.list.getD (k / 4) 0 := ⟨_, rfl⟩
     have hc : wr.cell? ⟨w.heap.size + 1, k / 4, none⟩ = some (u X) := by rw [hX, cell_of_cells hst, uA_at _ _ (by rw [s8_len]; omega)]
     have hc2 : wr.cell? ⟨w6.heap.size, k, none⟩ = some (bv ((outq S k).getD k 0)) := by rw [cell_of_cells hrow, bA_at _ _ (by rw [outq_len]; omega)]
     obtain ⟨old, hold⟩ : ∃ x, x = (outq S k).getD k 0 := ⟨_, rfl⟩
     rw [← hold] at hc2
     have hf : wr.frozen? ⟨w6.heap.size, k, none⟩ = false := frozen_of_row wr _ _ _ _ hrow
     obtain ⟨Y, hY⟩ : ∃ Y, Y = X >>> UInt32.ofNat (24 - 8 * (k % 4)) := ⟨_, rfl⟩
     have hsh : ∀ v, (binOp .shr 234 (u X) (.int .u64 (24 - 8 * ((k : Int) % 4)))).run Tryz.prog v = .ok (u Y) v := fun v => by
      rw [hY, show (24 - 8 * ((k : Int) % 4)) = ((24 - 8 * (k % 4) : Nat) : Int) by omega]; exact shr_u X _ (by omega) v
     have hb : (outB S).getD k 0 = UInt8.ofNat Y.toNat := by
      have e := outB_at S (k / 4) (k % 4) (by omega) (by omega)
      rw [show 4 * (k / 4) + k % 4 = k by omega] at e
      rw [e, hY, shr_toNat _ _ (by omega), hX, show 8 * (4 - 1 - k % 4) = 24 - 8 * (k % 4) by omega]
     have HN : Hid ((wr.setCell ⟨w6.heap.size, k, none⟩ (.int .u8 ((UInt8.ofNat Y.toNat).toNat : Int))).heap[w6.heap.size]? = some (.cells (bA (outq S (k + 1))) 46 (0, 0))) := by
      show _ = _
      rw [set_row hrow, ← outq_step S k hlt, hb]
      exact congrArg (fun z => some (Obj.cells z 46)) (bA_set _ _ _)
     have HN2 : Hid ((wr.setCell ⟨w6.heap.size, k, none⟩ (.int .u8 ((UInt8.ofNat Y.toNat).toNat : Int))).heap[w.heap.size + 1]? = some (.cells (uA S.list) 235 (0, 0))) := set_keep hst (by omega)
     have HM2 : Hid (Keep (fun i => i = w.heap.size + 1) w4 (wr.setCell ⟨w6.heap.size, k, none⟩ (.int .u8 ((UInt8.ofNat Y.toNat).toNat : Int)))) := hkp.step (Keep.cell _ _ _) fun i hi => .inr (by rw [hi]; exact HSZ6.out)
     clear hX hold hY hb hrow hst hkp
     have p1 : (0 : Int) ≤ (k : Int) := by omega
     have p2 : (k : Int) < 32 := by omega
     have q1 : (0 : Int) ≤ (k : Int) / 4 := by omega
     have q2 : (k : Int) / 4 < 8 := by omega
     have q3 : ((k : Int) / 4).toNat = k / 4 := by omega
     have m1 : (0 : Int) ≤ (k : Int) % 4 := by omega
     have m2 : (k : Int) % 4 ≤ 3 := by omega
     go_wp2_with fail
     go_roundg (32 - (k + 1))
     case measure => omega
     case rel => exact ⟨k + 1, by go_num, by omega, rfl, HN.out, HN2.out, HM2.out⟩
    ·obtain rfl : k = 32 := by omega
     have hd2 : decide (((32 : Nat) : Int) < 32) = false := by decide
     have hsum : outB S = sumL l := by rw [HSS.out, HP.out, sumL_eq, stOf, ← HP.out, HPl.out, Nat.mul_div_cancel_left _ (by decide)]
     rw [outq_end, hsum] at hrow
     have ld1 : ldA 46 wr (.pointer (some ⟨w6.heap.size, 0, none⟩)) = .ok (.value (.agg (bA (sumL l)))) wr := ldA_row hrow Tryz.underlying46 (by rw [bA_size, sumL_len]; exact info26)
     have hres : wr.heap[w.heap.size]? = some (.cells (bA z26) 46 (0, 0)) := hkp.heap HRES.out (by omega)
     have st1 : stA 46 wr (.pointer (some ⟨w.heap.size, 0, none⟩)) (.agg (bA (sumL l))) = .ok .skip (wr.setRow w.heap.size (bA (sumL l))) := stA_row hres (by rw [bA_size, sumL_len]; exact info26) (by rw [bA_size, bA_size, sumL_len]; rfl) (bA_one _)
     have HMr := Lib.hid (setRow_heap wr w.heap.size _ (bA (sumL l)) _ _ hres)
     have HBW : Hid (Below w.heap.size w (wr.setRow w.heap.size (bA (sumL l)))) := below_setRow ((HK4.out.step hkp fun i hi => .inr (by omega)).below (Nat.le_refl _) fun _ h => h.elim) (Nat.le_refl _) _
     clear hrow hst hkp hres hsum
     go_wp2_with fail
     refine bodyPost_ret (v := .agg (bA (sumL l))) ?_ rfl ⟨rfl, HBW.out⟩
     exact results_cell_row Tryz.results91 _ _ w.heap.size 46 _ (0, 0) _ rfl HMr.out Tryz.underlying46 rfl (by rw [bA_size, sumL_len]; exact info26)
end Go.Proofs.YtkejfdgmdjfdoaaGreatDoor
