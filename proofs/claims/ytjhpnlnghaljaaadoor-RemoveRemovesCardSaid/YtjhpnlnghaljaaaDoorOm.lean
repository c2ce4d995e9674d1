/- The walk of FindUnder over contracts (by program: gen-tpl8-laws.py). -/
import Derived.Test.YtjhpnlnghaljaaaDoorMO
namespace Go.Proofs.YtjhpnlnghaljaaaDoor
open Go.RowKit

/-- A key with a number in memory. -/
theorem kb_key {X w' : World} {g : Nat} {t : TypeId} {fr : Nat × Nat} {k : List UInt8} {d : Int} (h : Below X.heap.size X w') (hg : X.heap[g]? = some (.cells (k.map bv ++ [Value.int .i64 d]).toArray t fr)) (hk : k.length = 32) :
    ldA 24 w' (.pointer (some ⟨g, 0, none⟩)) = .ok (.value (.agg (bA k))) w' := by
  have hg2 : w'.heap[g]? = some (.cells (k.map bv ++ [Value.int .i64 d]).toArray t fr) := by rw [h.block g (lt_of_heap hg)]; exact hg
  have := ldA_of (t := 24) (w := w') (b := g) (o := 0) (cs := k.map bv) (fun j v hv => by
    rw [Nat.zero_add, cell_of_cells hg2]
    have hlt := (List.getElem?_eq_some_iff.1 hv).1
    simp only [List.getElem?_toArray]
    rw [List.getElem?_append_left hlt]
    exact hv) Tryd.underlying24 (by rw [List.length_map, hk]; exact infoKey)
  exact this
theorem kb_bits {X w' : World} {g : Nat} {t : TypeId} {fr : Nat × Nat} {k : List UInt8} {d : Int} (h : Below X.heap.size X w') (hg : X.heap[g]? = some (.cells (k.map bv ++ [Value.int .i64 d]).toArray t fr)) (hk : k.length = 32) :
    w'.cell? ⟨g, 32, none⟩ = some (.int .i64 d) := by
  have hg2 : w'.heap[g]? = some (.cells (k.map bv ++ [Value.int .i64 d]).toArray t fr) := by rw [h.block g (lt_of_heap hg)]; exact hg
  rw [cell_of_cells hg2]
  simp only [List.getElem?_toArray]
  rw [List.getElem?_append_right (by simp [hk])]
  simp [hk]
end Go.Proofs.YtjhpnlnghaljaaaDoor
