/- The walk of NodeLeaves over contracts: two loops that change bytes of the call's own; a region that draws its order. -/
import Derived.Test.YtbkokcfmndiedaaGreatDoorM6
import Derived.Test.YtbkokcfmndiedaaGreatDoorLd
namespace Go.Proofs.YtbkokcfmndiedaaGreatDoor
open Go.RowKit

/-- An own row of bytes that is not empty: where it lies, a byte of it, a byte stored. -/
theorem OwnB.at {w : World} {B : Nat} {A : Option Addr} {c : Nat} {l : List UInt8} (h : OwnB w B (.slice A l.length c) l) (h0 : 0 < l.length) :
    ∃ g, A = some ⟨g, 0, none⟩ ∧ B ≤ g ∧ g < w.heap.size ∧ (∀ j, w.frozen? ⟨g, j, none⟩ = false) ∧ (∀ j x, l[j]? = some x → w.cell? ⟨g, j, none⟩ = some (bv x)) ∧
      ∀ j y, j < l.length → OwnB (w.setCell ⟨g, j, none⟩ (bv y)) B (.slice A l.length c) (l.set j y) := by
  obtain ⟨e0, ⟨_, h⟩ | ⟨g, cap, cur, e, hg, hh, hn, hc, hs, ht⟩⟩ := h
  · omega
  cases e
  refine ⟨g, rfl, hg, lt_of_heap hh, fun j => frozen_of_row w _ _ _ _ hh, fun j x hx => ?_, fun j y hj => ?_⟩
  · rw [cell_of_cells hh, ← Array.getElem?_toList]
    have hlt := (List.getElem?_eq_some_iff.1 hx).1
    have : (cur.toList.take (l.length * 1))[j]? = some (bv x) := by rw [ht, List.getElem?_map, hx]; rfl
    rwa [List.getElem?_take, if_pos (by omega)] at this
  · refine ⟨by simp, .inr ⟨g, c, cur.setIfInBounds j (bv y), by rw [List.length_set], hg, set_row hh, by rw [List.length_set]; exact hn, hc, by rw [Array.size_setIfInBounds]; exact hs, ?_⟩⟩
    rw [List.length_set, Array.toList_setIfInBounds, List.take_set, ht, List.map_set]
theorem incr (y : UInt8) : ∃ z : UInt8, IntKind.u8.wrap ((y.toNat : Int) + 1) = (z.toNat : Int) := by
  refine ⟨y + 1, ?_⟩
  rw [wrap_u8]
  have h := y.toNat_lt
  rw [UInt8.toNat_add]
  show ((y.toNat : Int) + 1) % 256 = (((y.toNat + 1) % 256 : Nat) : Int)
  omega
end Go.Proofs.YtbkokcfmndiedaaGreatDoor
