/- The reference's Leaf and Node. -/
import Derived.Test.YtaajnjddfcdeaaaGreatDoorEa
namespace Go.Proofs.YtaajnjddfcdeaaaGreatDoor
open Go.RowKit

/-- Bytes of a row from a place on. -/
theorem range_row {w : World} {b : Nat} {l : List UInt8} {t : TypeId} {fr : Nat × Nat} (h : w.heap[b]? = some (.cells (bA l) t fr)) (o n : Nat) : w.rangeAt b o (((l.drop o).take n).map bv) := fun j v hv => by
  rw [cell_of_cells h]
  rw [List.getElem?_map, List.getElem?_take] at hv
  split at hv
  · rw [List.getElem?_drop] at hv
    obtain ⟨x, hx, rfl⟩ := Option.map_eq_some_iff.1 hv
    have hlt := (List.getElem?_eq_some_iff.1 hx).1
    rw [bA_at _ _ hlt]
    simp [List.getD_eq_getElem?_getD, hx]
  · simp at hv
theorem ldA_part {w : World} {b : Nat} {l : List UInt8} {t t' : TypeId} {e n : Nat} {fr : Nat × Nat} (h : w.heap[b]? = some (.cells (bA l) t' fr)) (o : Nat) (hu : Tryz.prog.underlying t = some (.array n e)) (hi : (Tryz.prog.info? t).map (·.size) = some ((l.drop o).take 32).length) :
    ldA t w (.pointer (some ⟨b, o, none⟩)) = .ok (.value (.agg (bA ((l.drop o).take 32)))) w := by
  have := ldA_of (t := t) (range_row h o 32) hu (by rw [hi, List.length_map])
  rwa [show (((l.drop o).take 32).map bv).toArray = bA ((l.drop o).take 32) from rfl] at this
set_option maxHeartbeats 1000000 in
set_option maxRecDepth 100000 in
theorem rleaf_c (k d : List UInt8) (hk : k.length = 32) (hd : d.length = 32) (w : World) :
    Calls Tryz.prog 54 #[.agg (bA (k ++ d))] w fun e w' => ∃ v, e = .returned v ∧ OwnB w' w.heap.size v (leafL k d) ∧ Below w.heap.size w w' := by
  have hr := heap_alloc_new w (.cells (bA (k ++ d)) 101)
  have e1 : ((k ++ d).drop 0).take 32 = k := by rw [List.drop_zero, List.take_append_of_le_length (by omega), List.take_of_length_le (by omega)]
  have e2 : ((k ++ d).drop 32).take 32 = d := by rw [List.drop_append, List.drop_of_length_le (by omega), hk, List.nil_append, Nat.sub_self, List.drop_zero, List.take_of_length_le (by omega)]
  have l1 := ldA_part (t := 31) hr 0 Tryz.underlying31 (by rw [e1, hk]; exact infoKey)
  have l2 := ldA_part (t := 42) hr 32 Tryz.underlying42 (by rw [e2, hd]; exact info26)
  rw [e1] at l1
  rw [e2] at l2
  have HC := Lib.hid (two_c 0 k d hk hd (w.alloc (.cells (bA (k ++ d)) 101)))
  clear e1 e2 hr
  go_enter Tryz.func54, Tryz.ntmps54
  go_wp2_with fail
  refine HC.out.mono ?_
  rintro e w2 ⟨v, rfl, hO, hb⟩
  have HO := Lib.hid (hO.mono (show w.heap.size ≤ (w.alloc (.cells (bA (k ++ d)) 101)).heap.size by simp))
  have HB := Lib.hid (((Below.refl _ _).alloc (Nat.le_refl w.heap.size) _).trans (hb.mono (by simp)))
  clear hO hb l1 l2
  go_wp2_with fail
  go_ret
  exact ⟨_, rfl, HO.out, HB.out⟩
set_option maxHeartbeats 1000000 in
set_option maxRecDepth 100000 in
theorem rnode_c (k d : List UInt8) (hk : k.length = 32) (hd : d.length = 32) (w : World) :
    Calls Tryz.prog 57 #[.agg (bA k), .agg (bA d)] w fun e w' => ∃ v, e = .returned v ∧ OwnB w' w.heap.size v (nodeL k d) ∧ Below w.heap.size w w' := by
  have l1 := ldA_row (t := 42) (heap_alloc2_old w (.cells (bA k) 42) (.cells (bA d) 42)) Tryz.underlying42 (by rw [bA_size, hk]; exact info26)
  have l2 := ldA_row (t := 42) (heap_alloc2_new w (.cells (bA k) 42) (.cells (bA d) 42)) Tryz.underlying42 (by rw [bA_size, hd]; exact info26)
  have HC := Lib.hid (two_c 1 k d hk hd ((w.alloc (.cells (bA k) 42)).alloc (.cells (bA d) 42)))
  have HB0 : Hid (Below w.heap.size w ((w.alloc (.cells (bA k) 42)).alloc (.cells (bA d) 42))) := ((Below.refl _ _).alloc (Nat.le_refl _) _).alloc (by simp) _
  go_enter Tryz.func57, Tryz.ntmps57
  go_wp2_with fail
  refine HC.out.mono ?_
  rintro e w2 ⟨v, rfl, hO, hb⟩
  have HO := Lib.hid (hO.mono HB0.out.size)
  have HB := Lib.hid (HB0.out.trans (hb.mono HB0.out.size))
  clear hO hb l1 l2
  go_wp2_with fail
  go_ret
  exact ⟨_, rfl, HO.out, HB.out⟩
end Go.Proofs.YtaajnjddfcdeaaaGreatDoor
