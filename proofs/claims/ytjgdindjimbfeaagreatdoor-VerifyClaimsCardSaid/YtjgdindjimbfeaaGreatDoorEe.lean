import Derived.Test.YtjgdindjimbfeaaGreatDoorME
namespace Go.Proofs.YtjgdindjimbfeaaGreatDoor
set_option linter.unusedSimpArgs false
set_option linter.unusedVariables false
set_option maxHeartbeats 4000000
set_option maxRecDepth 100000
open Go.RowKit
def laysL (p : List UInt8) (k : Nat) : List UInt8 := (List.range 32).map fun j => if j < k then p.getD j 0 else 0
theorem lays_len (p : List UInt8) (k : Nat) : (laysL p k).length = 32 := by simp [laysL]
theorem lays_at (p : List UInt8) (k j : Nat) (h : j < 32) : (laysL p k).getD j 0 = if j < k then p.getD j 0 else 0 := by simp [laysL, List.getD_eq_getElem?_getD, h]
theorem ext_32 {a b : List UInt8} (ha : a.length = 32) (hb : b.length = 32) (h : ∀ j, j < 32 → a.getD j 0 = b.getD j 0) : a = b := by
 refine List.ext_getElem (by omega) fun j h1 h2 => ?_
 have := h j (by omega)
 simpa [List.getD_eq_getElem?_getD, h1, h2] using this
theorem lays_zero (p : List UInt8) : laysL p 0 = z26 := ext_32 (lays_len _ _) (by simp [z26]) fun j hj => by
 rw [lays_at _ _ _ hj, if_neg (by omega)]
 unfold z26
 rw [List.getD_eq_getElem?_getD, List.getElem?_replicate]
 split <;> rfl
theorem lays_end (p : List UInt8) (hp : p.length = 32) : laysL p 32 = p := ext_32 (lays_len _ _) hp fun j hj => by
 rw [lays_at _ _ _ hj, if_pos hj]
theorem lays_step (p : List UInt8) (k : Nat) (hk : k < 32) : (laysL p k).set k (p.getD k 0) = laysL p (k + 1) := by
 refine ext_32 (by rw [List.length_set, lays_len]) (lays_len _ _) fun j hj => ?_
 rw [lays_at _ _ _ hj, List.getD_eq_getElem?_getD, List.getElem?_set]
 by_cases e : k = j
 ·subst e
  rw [if_pos rfl, if_pos (by rw [lays_len]; exact hk), if_pos (by omega)]
  rfl
 ·rw [if_neg e, ← List.getD_eq_getElem?_getD, lays_at _ _ _ hj]
  by_cases h3 : j < k
  ·rw [if_pos h3, if_pos (by omega)]
  ·rw [if_neg h3, if_neg (by omega)]
theorem part_at {l : List UInt8} {o k : Nat} (h : o + 32 ≤ l.length) (hk : k < 32) : l[o + k]? = some ((partL l o).getD k 0) := by
 unfold partL
 rw [List.getD_eq_getElem?_getD, List.getElem?_take, if_pos hk, List.getElem?_drop, List.getElem?_eq_getElem (by omega)]
 rfl
theorem part_c (A : Option Addr) (c o : Nat) (l : List UInt8) (w : World) (hA : BA w A l) (h : o + 32 ≤ l.length) (hl : l.length ≤ 1000000) :
  Calls Tryz.prog 61 #[.slice A l.length c, .int .i64 (o : Int)] w fun e w' => e = .returned (.agg (bA (partL l o))) ∧ Below w.heap.size w w' := by
 have HB0 : Hid (Below w.heap.size w ((w.alloc (.cells (bA z26) 46)).alloc (.cells (bA z26) 46))) := ((Below.refl _ _).alloc (Nat.le_refl _) _).alloc (by simp) _
 have H0 := Lib.hid (heap_alloc2_old w (.cells (bA z26) 46) (.cells (bA z26) 46))
 have H1 : Hid (((w.alloc (.cells (bA z26) 46)).alloc (.cells (bA z26) 46)).heap[w.heap.size + 1]? = some (.cells (bA (laysL (partL l o) 0)) 46 (0, 0))) := by
  rw [lays_zero]; exact heap_alloc2_new w (.cells (bA z26) 46) (.cells (bA z26) 46)
 have HA := Lib.hid hA
 have HPL := Lib.hid (part_len h)
 clear hA
 go_enter Tryz.func61, Tryz.ntmps61
 go_wp2_with fail
 go_loopg [6] 32 (fun gg i wr => ∃ k : Nat, i = .int .i64 k ∧ k ≤ 32 ∧ 32 - k = gg ∧ wr.heap[w.heap.size]? = some (.cells (bA z26) 46 (0, 0)) ∧ wr.heap[w.heap.size + 1]? = some (.cells (bA (laysL (partL l o) k)) 46 (0, 0)) ∧ Below w.heap.size w wr)
 case atStart => exact ⟨0, rfl, by omega, by omega, H0.out, H1.out, HB0.out⟩
 case round =>
  clear H0 H1 HB0
  obtain ⟨k, rfl, hk, rfl, hr0, hr1, hB⟩ := hrel
  by_cases hlt : k < 32
  ·have hd : decide ((k : Int) < 32) = true := by rw [decide_eq_true_eq]; omega
   obtain ⟨x, hx⟩ : ∃ x, x = (partL l o).getD k 0 := ⟨_, rfl⟩
   have hstep := lays_step (partL l o) k hlt
   have hat := part_at h hlt
   rw [← hx] at hstep hat
   obtain ⟨g, p, rfl, hcell⟩ := HA.out _ _ hat
   have hcr : wr.cell? ⟨g, p + (o + k), none⟩ = some (.int .u8 (x.toNat : Int)) := by rw [hB.cell (lt_of_cell hcell)]; exact hcell
   have hc2 : wr.cell? ⟨w.heap.size + 1, k, none⟩ = some (bv ((laysL (partL l o) k).getD k 0)) := by
    rw [cell_of_cells hr1, bA_at _ _ (by rw [lays_len]; exact hlt)]
   have hfz : wr.frozen? ⟨w.heap.size + 1, k, none⟩ = false := frozen_of_row wr _ _ _ _ hr1
   obtain ⟨old, hold⟩ : ∃ y, y = (laysL (partL l o) k).getD k 0 := ⟨_, rfl⟩
   rw [← hold] at hc2
   have HN : Hid ((wr.setCell ⟨w.heap.size + 1, k, none⟩ (.int .u8 (x.toNat : Int))).heap[w.heap.size + 1]? = some (.cells (bA (laysL (partL l o) (k + 1))) 46 (0, 0))) := by
    show _ = _
    rw [set_row hr1, ← hstep, ← bA_set]
    rfl
   have HR : Hid ((wr.setCell ⟨w.heap.size + 1, k, none⟩ (.int .u8 (x.toNat : Int))).heap[w.heap.size]? = some (.cells (bA z26) 46 (0, 0))) := by
    show _ = _
    rw [Below.heap_setCell _ _ _ _ (by simp)]
    exact hr0
   have HB2 : Hid (Below w.heap.size w (wr.setCell ⟨w.heap.size + 1, k, none⟩ (.int .u8 (x.toNat : Int)))) := hB.setCell (by simp) _
   clear hx hstep hat hcell hr0 hr1 hB hold
   have w1 : IntKind.i64.wrap ((o : Int) + (k : Int)) = (o : Int) + (k : Int) := IntWalk.i64_in _ (by omega)
   have p0 : (0 : Int) ≤ (o : Int) + (k : Int) := by omega
   have p1 : (o : Int) + (k : Int) < (l.length : Int) := by omega
   have n1 : ((o : Int) + (k : Int)).toNat = o + k := by omega
   go_wp2_with fail
   go_roundg (32 - (k + 1))
   case measure => omega
   case rel => exact ⟨k + 1, by go_num, by omega, rfl, HR.out, HN.out, HB2.out⟩
  ·obtain rfl : k = 32 := by omega
   rw [lays_end _ HPL.out] at hr1
   have ld1 : ldA 46 wr (.pointer (some ⟨w.heap.size + 1, 0, none⟩)) = .ok (.value (.agg (bA (partL l o)))) wr := ldA_row hr1 Tryz.underlying46 (by rw [bA_size, HPL.out]; exact infoArr)
   have st1 : stA 46 wr (.pointer (some ⟨w.heap.size, 0, none⟩)) (.agg (bA (partL l o))) = .ok .skip (wr.setRow w.heap.size (bA (partL l o))) := stA_row hr0 (by rw [bA_size, HPL.out]; exact infoArr) (by rw [bA_size, bA_size, HPL.out]; rfl) (bA_one _)
   have HM2 := Lib.hid (setRow_heap wr w.heap.size _ (bA (partL l o)) _ _ hr0)
   have HB := Lib.hid (below_setRow hB (Nat.le_refl w.heap.size) (bA (partL l o)))
   clear hr0 hr1 hB
   go_wp2_with fail
   refine bodyPost_ret (v := .agg (bA (partL l o))) ?_ rfl ⟨rfl, HB.out⟩
   exact results_cell_row Tryz.results61 _ _ w.heap.size 46 _ (0, 0) _ rfl HM2.out Tryz.underlying46 rfl (by rw [bA_size, HPL.out]; exact infoArr)
end Go.Proofs.YtjgdindjimbfeaaGreatDoor
