import Derived.Test.YtmfbhohjpkmllaaGreatDoorM2
import Derived.Test.YtmfbhohjpkmllaaGreatDoorM3
namespace Go.Proofs.YtmfbhohjpkmllaaGreatDoor
set_option linter.unusedSimpArgs false
set_option linter.unusedVariables false
set_option maxHeartbeats 1000000
section
open Go.RowKit
def kF (l : List UInt8) : Nat → Nat := fun j => (l.getD j 0).toNat
theorem kF_byt (l : List UInt8) : Bt.Byt (kF l) := fun _ => UInt8.toNat_lt _
theorem bA_kc (l : List UInt8) (h : l.length = 32) : bA l = Bt.kc (kF l) := by
 apply Array.toList_inj.1
 refine List.ext_getElem (by simp [bA, Bt.kc, h]) fun j h1 h2 => ?_
 have h3 : j < l.length := by simpa [bA] using h1
 simp [bA, Bt.kc, kF, bv, List.getD_eq_getElem?_getD, h3]
def cutL (n : Int) (l : List UInt8) : List UInt8 := (List.range 32).map fun j => UInt8.ofNat (Bt.pre (kF l) (Bt.lim n) j)
theorem cutL_len (n : Int) (l : List UInt8) : (cutL n l).length = 32 := by simp [cutL]
theorem kc_cutL (n : Int) (l : List UInt8) : Bt.kc (Bt.pre (kF l) (Bt.lim n)) = bA (cutL n l) := by
 rw [bA_kc _ (cutL_len n l)]
 refine Bt.kc_congr fun j hj => ?_
 have hb := Bt.pre_byt (kF_byt l) (Bt.lim n) j
 simp [kF, cutL, List.getD_eq_getElem?_getD, hj]
 omega
theorem rcut_c (l : List UInt8) (hl : l.length = 32) (n : Int) (w : World) :
  Calls Tryz.prog 74 #[.agg (bA l), .int .i64 n] w fun e w' => e = .returned (.agg (bA (cutL n l))) ∧ Below w.heap.size w w' := by
 have hla : Hid (ldA 45 ((w.alloc (.cells (bA l) 45)).alloc (.cells (bA z26) 45)) (.pointer (some ⟨w.heap.size, 0, none⟩)) = .ok (.value (.agg (Bt.kc (kF l)))) ((w.alloc (.cells (bA l) 45)).alloc (.cells (bA z26) 45))) := by
  rw [← bA_kc l hl]
  exact ldA_row (heap_alloc2_old w _ _) Tryz.underlying45 (by rw [bA_size, hl]; exact info26)
 have la := hla.out
 go_enter Tryz.func74, Tryz.ntmps74
 go_wp2_with fail
 refine (Bt.rprefix_c (kF l) (kF_byt l) n _).mono ?_
 rintro e w1 ⟨rfl, hb⟩
 rw [kc_cutL]
 have KR : w1.heap[w.heap.size + 1]? = some (.cells (bA z26) 45 (0, 0)) := (Keep.of_below (L := fun _ => False) hb).heap (heap_alloc2_new w _ _) fun h => h
 have sb := stA_row (t := 45) KR (v := bA (cutL n l)) (by rw [bA_size, cutL_len]; exact info26) (by rw [bA_size, bA_size, cutL_len]; rfl) (bA_one _)
 have HB : Hid (Below w.heap.size w w1) := ((((Keep.refl (fun _ => False) w).alloc _).alloc _).trans (Keep.of_below hb)).below (Nat.le_refl _) fun _ h => h.elim
 have HR := Lib.hid KR
 clear hb la KR
 go_wp2
 refine bodyPost_ret (v := .agg (bA (cutL n l))) ?_ rfl ⟨rfl, Bt.below_row HB.out (by omega) _⟩
 exact results_cell_row Tryz.results74 _ _ (w.heap.size + 1) 45 _ (0, 0) _ rfl (setRow_heap w1 _ _ _ 45 _ HR.out) Tryz.underlying45 rfl (by rw [bA_size, cutL_len]; exact info26)
def digL (n : Int) (l : List UInt8) : List UInt8 := cutL n (sumL l)
theorem rdig_c (n : Int) (A : Option Addr) (c : Nat) (l : List UInt8) (w : World) (hA : BA w A l) (hl : l.length ≤ 1000000000) :
  Calls Tryz.prog 47 #[.int .i64 n, .slice A l.length c] w fun e w' => e = .returned (.agg (bA (digL n l))) ∧ Below w.heap.size w w' := by
 have HA : Hid (BA (w.alloc (.cells (bA z26) 45)) A l) := hA.below (((Keep.refl (fun _ => False) w).alloc _).below (Nat.le_refl _) fun _ h => h.elim)
 clear hA
 go_enter Tryz.func47, Tryz.ntmps47
 go_wp2_with fail
 refine (rsum_c A c l _ HA.out hl).mono ?_
 rintro e w1 ⟨rfl, hb⟩
 have K1 : Keep (fun _ => False) w w1 := ((Keep.refl (fun _ => False) w).alloc _).trans (Keep.of_below hb)
 have R1 : w1.heap[w.heap.size]? = some (.cells (bA z26) 45 (0, 0)) := (Keep.of_below (L := fun _ => False) hb).heap (heap_alloc_last w _) fun h => h
 have HK := Lib.hid K1
 have HR := Lib.hid R1
 clear hb K1 R1 HA
 go_wp2_with fail
 refine (rcut_c (sumL l) (by exact sumL_len l) n w1).mono ?_
 rintro e w2 ⟨rfl, hb⟩
 have KR : w2.heap[w.heap.size]? = some (.cells (bA z26) 45 (0, 0)) := (Keep.of_below (L := fun _ => False) hb).heap HR.out fun h => h
 have sb := stA_row (t := 45) KR (v := bA (digL n l)) (by rw [bA_size, digL, cutL_len]; exact info26) (by rw [bA_size, bA_size, digL, cutL_len]; rfl) (bA_one _)
 have HB : Hid (Below w.heap.size w w2) := (HK.out.trans (Keep.of_below hb)).below (Nat.le_refl _) fun _ h => h.elim
 have HR2 := Lib.hid KR
 clear hb KR HK HR
 rw [digL] at sb
 go_wp2
 refine bodyPost_ret (v := .agg (bA (digL n l))) ?_ rfl ⟨rfl, Bt.below_row HB.out (by omega) _⟩
 exact results_cell_row Tryz.results47 _ _ w.heap.size 45 _ (0, 0) _ rfl (setRow_heap w2 _ _ _ 45 _ HR2.out) Tryz.underlying45 rfl (by rw [bA_size, digL, cutL_len]; exact info26)
end
section
open Go.RowKit
theorem kF_cutL (n : Int) (l : List UInt8) (j : Nat) (hj : j < 32) : kF (cutL n l) j = Bt.pre (kF l) (Bt.lim n) j := by
 have hb := Bt.pre_byt (kF_byt l) (Bt.lim n) j
 simp [kF, cutL, List.getD_eq_getElem?_getD, hj]
 omega
theorem dig_len (n : Int) (l : List UInt8) : (digL n l).length = 32 := cutL_len _ _
end
end Go.Proofs.YtmfbhohjpkmllaaGreatDoor
