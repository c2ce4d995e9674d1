/- The reference's Sum. -/
import Derived.Test.YtjnhhcbplhmemaaDoorLa
import Derived.Test.YtjnhhcbplhmemaaDoorM1
namespace Go.Proofs.YtjnhhcbplhmemaaDoor
open Go.RowKit

theorem bld8 (w : World) (a b c d e f g h : UInt32) : bldA 128 w #[(0, u a), (1, u b), (2, u c), (3, u d), (4, u e), (5, u f), (6, u g), (7, u h)] = .ok (.value (.agg (uA [a, b, c, d, e, f, g, h]))) w := by kernel_rfl
theorem bldInit (w : World) : bldA 128 w #[(0, .int .u32 1779033703), (1, .int .u32 3144134277), (2, .int .u32 1013904242), (3, .int .u32 2773480762), (4, .int .u32 1359893119), (5, .int .u32 2600822924), (6, .int .u32 528734635), (7, .int .u32 1541459225)] = .ok (.value (.agg (uA init8.list))) w := by kernel_rfl
/-- The world behind the first three lines. -/
def w3 (w : World) : World := ((w.alloc (.cells (bA z26) 70)).alloc (.cells (uA init8.list) 128)).alloc (.cells (uA kTab) 127)
theorem w3_size (w : World) : (w3 w).heap.size = w.heap.size + 3 := by simp [w3]
theorem w3_keep (w : World) : Keep (fun _ => False) w (w3 w) := (((Keep.refl _ w).alloc _).alloc _).alloc _
theorem w3_heap (w : World) : (w3 w).heap[w.heap.size]? = some (.cells (bA z26) 70 (0, 0)) ∧ (w3 w).heap[w.heap.size + 1]? = some (.cells (uA init8.list) 128 (0, 0)) ∧ (w3 w).heap[w.heap.size + 1 + 1]? = some (.cells (uA kTab) 127 (0, 0)) := by
  have n1 := heap_alloc_new (w.alloc (.cells (bA z26) 70)) (.cells (uA init8.list) 128)
  have n2 := heap_alloc_new ((w.alloc (.cells (bA z26) 70)).alloc (.cells (uA init8.list) 128)) (.cells (uA kTab) 127)
  rw [show (w.alloc (.cells (bA z26) 70)).heap.size = w.heap.size + 1 by simp] at n1
  rw [show ((w.alloc (.cells (bA z26) 70)).alloc (.cells (uA init8.list) 128)).heap.size = w.heap.size + 1 + 1 by simp] at n2
  unfold w3
  refine ⟨?_, ?_, n2⟩
  · rw [Below.heap_alloc _ _ _ (by simp; omega), Below.heap_alloc _ _ _ (by simp)]; exact heap_alloc_new w _
  · rw [Below.heap_alloc _ _ _ (by simp)]; exact n1
theorem cells8 {w : World} {b : Nat} {s : S8} (h : w.heap[b]? = some (.cells (uA s.list) 128 (0, 0))) : w.cell? ⟨b, 0, none⟩ = some (u s.a) ∧ w.cell? ⟨b, 1, none⟩ = some (u s.b) ∧ w.cell? ⟨b, 2, none⟩ = some (u s.c) ∧ w.cell? ⟨b, 3, none⟩ = some (u s.d) ∧
    w.cell? ⟨b, 4, none⟩ = some (u s.e) ∧ w.cell? ⟨b, 5, none⟩ = some (u s.f) ∧ w.cell? ⟨b, 6, none⟩ = some (u s.g) ∧ w.cell? ⟨b, 7, none⟩ = some (u s.h) := by
  refine ⟨?_, ?_, ?_, ?_, ?_, ?_, ?_, ?_⟩ <;> (rw [cell_of_cells h]; rfl)
/-- The digest while its bytes are laid, i of them. -/
def outq (s : S8) (i : Nat) : List UInt8 := (List.range 32).map fun j => if j < i then (outB s).getD j 0 else 0
theorem outq_len (s : S8) (i : Nat) : (outq s i).length = 32 := by simp [outq]
theorem outq_zero (s : S8) : outq s 0 = z26 := outp_zero s
theorem outq_end (s : S8) : outq s 32 = outB s := outp_end s
theorem outq_step (s : S8) (i : Nat) (h : i < 32) : (outq s i).set i ((outB s).getD i 0) = outq s (i + 1) := by
  apply List.ext_getElem?
  intro t
  rw [List.getElem?_set]
  by_cases e : i = t
  · subst e
    rw [if_pos rfl, outq_len, if_pos h]
    simp only [outq, List.getElem?_map, List.getElem?_range h, Option.map_some]
    rw [if_pos (by omega)]
  · rw [if_neg e]
    rcases Nat.lt_or_ge t 32 with h2 | h2
    · simp only [outq, List.getElem?_map, List.getElem?_range h2, Option.map_some]
      by_cases h3 : t < i
      · rw [if_pos h3, if_pos (by omega)]
      · rw [if_neg h3, if_neg (by omega)]
    · rw [List.getElem?_eq_none (by simpa [outq] using h2), List.getElem?_eq_none (by simpa [outq] using h2)]
theorem shr_toNat (x : UInt32) (n : Nat) (h : n < 32) : (x >>> UInt32.ofNat n).toNat = x.toNat / 2 ^ n := by
  rw [UInt32.toNat_shiftRight, Nat.shiftRight_eq_div_pow]
  congr 2
  simp; omega
theorem blks_step (P sub : List UInt8) (j : Nat) (hs : sub = (P.drop (64 * j)).take 64) : (blks P j).add (rounds (blks P j) (sched (fnOf sub)) 64) = blks P (j + 1) := by
  rw [blks]
  show blk (blks P j) (fnOf sub) = _
  refine blk_congr _ _ _ fun t ht => ?_
  rw [hs, fnOf]
  simp [List.getD_eq_getElem?_getD, ht, List.getElem?_drop]
end Go.Proofs.YtjnhhcbplhmemaaDoor
