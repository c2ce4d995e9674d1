/- The reference's Leaf and Node. -/
import Derived.Test.YtjnhhcbplhmemaaDoorEa
namespace Go.Proofs.YtjnhhcbplhmemaaDoor
open Go.RowKit

/-- Bytes of a row from a place on. -/
theorem range_row {w : World} {b : Nat} {l : List UInt8} {t : TypeId} {fr : Nat × Nat} (h : w.heap[b]? = some (.cells (bA l) t fr)) (o n : Nat) : w.rangeAt b o (((l.drop o).take n).map bv) := fun j v hv => by
  rw [cell_of_cells h]
  rw [List.getElem?_map, List.getElem?_take] at hv
  split at hv
  · rw [List.getElem?_drop] at hv
    obtain ⟨x, hx, rfl⟩ := Option.map_eq_some_iff.1 hv
    have hlt := (List.getElem?_eq_some_iff.1 hx).1
    rw [bA_at _ _ hlt]
    simp [List.getD_eq_getElem?_getD, hx]
  · simp at hv
theorem ldA_part {w : World} {b : Nat} {l : List UInt8} {t t' : TypeId} {e n : Nat} {fr : Nat × Nat} (h : w.heap[b]? = some (.cells (bA l) t' fr)) (o : Nat) (hu : Tryd.prog.underlying t = some (.array n e)) (hi : (Tryd.prog.info? t).map (·.size) = some ((l.drop o).take 32).length) :
    ldA t w (.pointer (some ⟨b, o, none⟩)) = .ok (.value (.agg (bA ((l.drop o).take 32)))) w := by
  have := ldA_of (t := t) (range_row h o 32) hu (by rw [hi, List.length_map])
  rwa [show (((l.drop o).take 32).map bv).toArray = bA ((l.drop o).take 32) from rfl] at this
end Go.Proofs.YtjnhhcbplhmemaaDoor
