/- The library's Grow, Concat and Clone at bytes, the program's Pad, the reference's Same. -/
import Derived.Test.YtaggbmlkfdfjpaaDoorK
import Derived.Lib.AppendZeros
namespace Go.Proofs.YtaggbmlkfdfjpaaDoor
open Go.RowKit

theorem OwnB.nil (w : World) (B : Nat) : OwnB w B (.slice none 0 0) [] := ⟨rfl, .inl ⟨rfl, rfl⟩⟩
theorem run_append_empty (w : World) (ty : TypeId) (A : Option Addr) (c : Nat) : (Builtin.append_ #[34, 34] ty #[.slice none 0 0, .slice A 0 c]).run Tryd.prog w = .ok (.slice none 0 0) w := by
  obtain ⟨i0, hi, hz0, hz1, hz2⟩ := info_parts info5
  have hl : (loadCells (⟨0, 0, none⟩ : Addr) 0).run Tryd.prog w = .ok #[] w := rfl
  cases A with
  | none => simp [Builtin.append_, run_underlying Tryd.underlying34, sizeOf, typeInfo, hi, Builtin.lenOf, Builtin.firstCells]
  | some ad => simp [Builtin.append_, run_underlying Tryd.underlying34, sizeOf, typeInfo, hi, Builtin.lenOf, Builtin.firstCells, loadCells, loadCellsFrom]
/-- A slice of bytes is appended to a row that the call owns, whatever both are. -/
theorem wpList_catB1 {ops : Array Oper} {rest : List Oper} {o : Oper} {a : Act} {w : World} {Q : Exit → Act → World → Prop} (hgd : o.guard = none) (s x : Operand)
    (ho : o.op = .call { callee := .builtin .append, args := #[s, x], argTypes := #[34, 34] }) (B : Nat) (v : Value) (l : List UInt8) (hs : a.eval s = v) (hown : OwnB w B v l) (A : Option Addr) (c : Nat) (m : List UInt8)
    (hx : a.eval x = .slice A m.length c) (hk : BA w A m) (hl : l.length + m.length ≤ 140737488000000) (hB : B ≤ w.heap.size)
    (h : ∀ v' w', OwnB w' B v' (l ++ m) → Below B w w' → wpList Tryd.prog ops Q rest (a.put o.dst v') w') : wpList Tryd.prog ops Q (o :: rest) a w := by
  rcases Nat.eq_zero_or_pos m.length with h0 | h0
  · have hown2 := hown
    obtain ⟨h00, ⟨rfl, hl0⟩ | ⟨g, cap, cur, rfl, hg, hh, hnc, hr⟩⟩ := hown
    · obtain rfl : l = [] := List.length_eq_zero_iff.1 hl0
      obtain rfl : m = [] := List.length_eq_zero_iff.1 h0
      have hrun := run_append_empty w o.type A c
      refine Lib.wpList_append_run w hgd s x 34 34 ho _ _ hs hx _ _ hrun (h _ _ (OwnB.nil _ _) (Below.refl _ _))
    · exact wpList_catB0 hgd s x ho B g cap l hs hnc hown2 A c m hx hk hl hB h
  · exact wpList_catB hgd s x ho B v l hs hown A c m hx hk h0 hl hB h

theorem OwnB.mono {w : World} {B B' : Nat} {v : Value} {l : List UInt8} (h : OwnB w B v l) (hB : B' ≤ B) : OwnB w B' v l := by
  obtain ⟨h0, h | ⟨g, cap, cur, rfl, hg, hr⟩⟩ := h
  · exact ⟨h0, .inl h⟩
  · exact ⟨h0, .inr ⟨g, cap, cur, rfl, by omega, hr⟩⟩
theorem sl_made (w : World) (ls : List Pc) (t : TypeId) (h : ∀ x ∈ ls, x.l.length ≤ x.c ∧ BA w x.A x.l) : SL (w.alloc (.cells (ls.map Pc.val).toArray t)) (some ⟨w.heap.size, 0, none⟩) ls := fun i x hx => by
  obtain ⟨h1, h2⟩ := h x (List.mem_of_getElem? hx)
  refine ⟨h1, h2.below ((Below.refl _ _).alloc (Nat.le_refl _) _), _, _, rfl, ?_⟩
  rw [cell_of_cells (heap_alloc_new w _), Nat.zero_add]
  simp [hx, Pc.val]
theorem BA_row {w : World} {g : Nat} {l : List UInt8} {t : TypeId} {fr : Nat × Nat} (h : w.heap[g]? = some (.cells (bA l) t fr)) : BA w (some ⟨g, 0, none⟩) l := fun j x hx => by
  refine ⟨g, 0, rfl, ?_⟩
  have hj := (List.getElem?_eq_some_iff.1 hx).1
  rw [cell_of_cells h, Nat.zero_add, bA_at _ _ hj]
  simp [List.getD_eq_getElem?_getD, hx, bv]
theorem OwnB.ba {w : World} {B : Nat} {v : Value} {l : List UInt8} (h : OwnB w B v l) (hl : 0 < l.length) : ∃ g c, v = .slice (some ⟨g, 0, none⟩) l.length c ∧ l.length ≤ c ∧ c ≤ maxLen ∧ B ≤ g ∧ BA w (some ⟨g, 0, none⟩) l := by
  obtain ⟨h0, ⟨_, h⟩ | ⟨g, cap, cur, rfl, hg, hh, hn, hc, hs, ht⟩⟩ := h
  · omega
  · refine ⟨g, cap, rfl, hn, hc, hg, fun j x hj => ⟨g, 0, rfl, ?_⟩⟩
    have hlt : j < l.length := (List.getElem?_eq_some_iff.1 hj).1
    rw [Nat.zero_add, cell_of_cells hh, ← Array.getElem?_toList]
    have : (cur.toList.take (l.length * 1))[j]? = some (bv x) := by rw [ht]; simp [hj]
    rw [List.getElem?_take_of_lt (by omega)] at this
    exact this
theorem OwnB.any {w : World} {B : Nat} {v : Value} {l : List UInt8} (h : OwnB w B v l) : ∃ A c, v = .slice A l.length c ∧ l.length ≤ c ∧ BA w A l := by
  rcases Nat.eq_zero_or_pos l.length with h0 | h0
  · obtain rfl : l = [] := List.length_eq_zero_iff.1 h0
    obtain ⟨_, ⟨rfl, _⟩ | ⟨g, cap, cur, rfl, hg, hh, hnc, hr⟩⟩ := h
    · exact ⟨none, 0, rfl, Nat.zero_le _, fun j x h => by simp at h⟩
    · exact ⟨_, _, rfl, Nat.zero_le _, fun j x h => by simp at h⟩
  · obtain ⟨g, c, e, h1, _, _, h2⟩ := h.ba h0
    exact ⟨_, c, e, h1, h2⟩
theorem get_some {α : Type} {l : List α} {k : Nat} (h : k < l.length) : ∃ x, l[k]? = some x := ⟨_, List.getElem?_eq_getElem h⟩
theorem ret_bool {a b : Bool} (h : a = b) : Ending.returned (.bool a) = .returned (.bool b) := by rw [h]
end Go.Proofs.YtaggbmlkfdfjpaaDoor
