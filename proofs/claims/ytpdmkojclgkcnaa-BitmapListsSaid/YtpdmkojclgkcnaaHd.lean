/- Rows of numbers: given ones, and the call's own, to which numbers and rows are appended. -/
import Derived.Test.YtpdmkojclgkcnaaHc
import Derived.Test.YtpdmkojclgkcnaaBtN0
import Derived.Deep.AppendLies
import Derived.Deep.AppendSrc
import Derived.Laws.AppendOwn
namespace Go.Proofs.Ytpdmkojclgkcnaa.Bt
open Go.RowKit

theorem get_zome {l : List Int} {i : Nat} (h : i < l.length) : ∃ x, l[i]? = some x := ⟨_, List.getElem?_eq_getElem h⟩
theorem bt_lt_heap {w : World} {b : Nat} {o : Obj} (h : w.heap[b]? = some o) : b < w.heap.size := by
  rcases Nat.lt_or_ge b w.heap.size with h' | h'
  · exact h'
  · rw [Array.getElem?_eq_none h'] at h; cases h
theorem bt_lt_cell {w : World} {a : Addr} {v : Value} (h : w.cell? a = some v) : a.block < w.heap.size := by
  rcases Nat.lt_or_ge a.block w.heap.size with h' | h'
  · exact h'
  · simp [World.cell?, Array.getElem?_eq_none h'] at h
def zv (x : Int) : Value := .int .i64 x
/-- The numbers of l lie from A on. -/
def ZA (w : World) (A : Option Addr) (l : List Int) : Prop := ∀ (j : Nat) (x : Int), l[j]? = some x → ∃ b o, A = some ⟨b, o, none⟩ ∧ w.cell? ⟨b, o + j, none⟩ = some (.int .i64 x)
theorem ZA.below {w w' : World} {A : Option Addr} {l : List Int} (h : ZA w A l) (hb : Below w.heap.size w w') : ZA w' A l := fun j x hj => by
  obtain ⟨b, o, h1, h2⟩ := h j x hj
  exact ⟨b, o, h1, by rw [hb.cell (bt_lt_cell h2)]; exact h2⟩
theorem ZA.empty (w : World) (A : Option Addr) : ZA w A [] := fun j x h => by simp at h
theorem infoZ : (Try.prog.info? 3).map (fun i => (i.zero, i.size, i.bytes)) = some (some (.int .i64 0), 1, 8) := by kernel_rfl
def OwnZ (w : World) (B : Nat) (v : Value) (l : List Int) : Prop := w.ownsRow B 3 1 v l.length (l.map zv)
theorem OwnZ.nil (w : World) (B : Nat) : OwnZ w B (.slice none 0 0) [] := ⟨rfl, .inl ⟨rfl, rfl⟩⟩
theorem OwnZ.below {w w' : World} {B : Nat} {v : Value} {l : List Int} (h : OwnZ w B v l) (hb : Below w.heap.size w w') : OwnZ w' B v l := by
  obtain ⟨h0, h | ⟨g, cap, cur, rfl, hg, hh, hr⟩⟩ := h
  · exact ⟨h0, .inl h⟩
  · exact ⟨h0, .inr ⟨g, cap, cur, rfl, hg, by rw [hb.block g (bt_lt_heap hh)]; exact hh, hr⟩⟩
theorem OwnZ.mono {w : World} {B B' : Nat} {v : Value} {l : List Int} (h : OwnZ w B v l) (hB : B' ≤ B) : OwnZ w B' v l := by
  obtain ⟨h0, h | ⟨g, cap, cur, hv, hg, hr⟩⟩ := h
  · exact ⟨h0, .inl h⟩
  · exact ⟨h0, .inr ⟨g, cap, cur, hv, by omega, hr⟩⟩
theorem OwnZ.ge {w : World} {B : Nat} {v : Value} {l : List Int} (h : OwnZ w B v l) : ∀ k, v.ownBlock = some k → B ≤ k := fun k hk => by
  obtain ⟨_, h | ⟨g, cap, cur, rfl, hg, _⟩⟩ := h
  · obtain ⟨rfl, _⟩ := h; simp [Value.ownBlock] at hk
  · simp [Value.ownBlock] at hk; omega
theorem OwnZ.is {w : World} {B : Nat} {v : Value} {l : List Int} (h : OwnZ w B v l) : ∃ A c, v = .slice A l.length c ∧ ZA w A l := by
  obtain ⟨h0, ⟨rfl, h⟩ | ⟨g, cap, cur, rfl, hg, hh, hn, hc, hs, ht⟩⟩ := h
  · exact ⟨none, 0, by rw [h], fun i x hi => by
      have : l = [] := List.length_eq_zero_iff.1 h
      subst this; simp at hi⟩
  · refine ⟨_, _, rfl, fun i x hi => ⟨g, 0, rfl, ?_⟩⟩
    rw [Nat.zero_add, cell_of_row _ _ _ _ _ _ hh, ← Array.getElem?_toList]
    have hlt : i < l.length := (List.getElem?_eq_some_iff.1 hi).1
    have : (cur.toList.take (l.length * 1))[i]? = some (zv x) := by rw [ht]; simp [hi]
    rw [List.getElem?_take_of_lt (by omega)] at this
    exact this
/-- Numbers in a block that was just made. -/
theorem ZA_new (w : World) (l : List Int) : ZA (w.alloc (.cells (l.map zv).toArray 3)) (some ⟨w.heap.size, 0, none⟩) l := fun j x hx => by
  refine ⟨_, _, rfl, ?_⟩
  rw [cell_of_row _ _ _ _ _ _ (heap_alloc_last w _), List.getElem?_toArray, Nat.zero_add, List.getElem?_map, hx]
  rfl
theorem OwnZ_new (w : World) : OwnZ (w.alloc (.cells #[] 3)) w.heap.size (.slice (some ⟨w.heap.size, 0, none⟩) 0 0) [] :=
  ⟨rfl, .inr ⟨w.heap.size, 0, #[], rfl, Nat.le_refl _, heap_alloc_last w _, Nat.zero_le _, Nat.zero_le _, rfl, rfl⟩⟩
/-- One number is appended. -/
theorem wpList_pushZ {ops : Array Oper} {rest : List Oper} {o : Oper} {a : Act} {w : World} {Q : Exit → Act → World → Prop} (hgd : o.guard = none) (s x : Operand)
    (ho : o.op = .call { callee := .builtin .append, args := #[s, x], argTypes := #[22, 22] }) (B : Nat) (v : Value) (l : List Int) (hs : a.eval s = v) (hown : OwnZ w B v l) (g : Nat) (d : Int)
    (hx : a.eval x = .slice (some ⟨g, 0, none⟩) 1 1) (hr : w.cell? ⟨g, 0, none⟩ = some (.int .i64 d)) (hl : l.length ≤ 1000000) (hB : B ≤ w.heap.size)
    (h : ∀ v' w', OwnZ w' B v' (l ++ [d]) → Below B w w' → wpList Try.prog ops Q rest (a.put o.dst v') w') : wpList Try.prog ops Q (o :: rest) a w := by
  obtain ⟨i0, hi, hz0, hz1, hz2⟩ := info_parts infoZ
  refine wpList_append_own (w := w) hgd s x 22 ho B 3 i0 _ 1 8 Try.underlying22 hi hz0 hz1 hz2 rfl (by decide) v l.length (l.map zv) hs hown ⟨g, 0, none⟩ 1 1 [zv d] hx rfl
    (fun j u hj => ?_) (fun u hu => ?_) (by unfold maxLen; omega) (by omega) hB fun v' w' h1 h2 _ => h v' w' ?_ ?_
  · match j, hj with
    | 0, hj =>
      simp at hj
      rw [← hj]
      simpa [Addr.add, zv] using hr
  · simp at hu; subst hu; rfl
  · unfold OwnZ
    rw [List.map_append, List.length_append]
    simpa using h1
  · exact (Below.refl _ _).grown h2 hB hown.ge
/-- A row is appended, whatever its length, to a row with an address. -/
theorem wpList_catZ {ops : Array Oper} {rest : List Oper} {o : Oper} {a : Act} {w : World} {Q : Exit → Act → World → Prop} (hgd : o.guard = none) (s x : Operand)
    (ho : o.op = .call { callee := .builtin .append, args := #[s, x], argTypes := #[22, 22] }) (B : Nat) (v : Value) (l : List Int) (hs : a.eval s = v) (hown : OwnZ w B v l) (hv : v ≠ .slice none 0 0) (A : Option Addr) (c : Nat) (m : List Int)
    (hx : a.eval x = .slice A m.length c) (hk : ZA w A m) (hl : l.length ≤ 1000000) (hm : m.length ≤ 1000000) (hB : B ≤ w.heap.size)
    (h : ∀ v' w', OwnZ w' B v' (l ++ m) → v' ≠ .slice none 0 0 → Below B w w' → wpList Try.prog ops Q rest (a.put o.dst v') w') : wpList Try.prog ops Q (o :: rest) a w := by
  obtain ⟨i0, hi, hz0, hz1, hz2⟩ := info_parts infoZ
  rcases Nat.eq_zero_or_pos m.length with h0 | h0
  · obtain rfl : m = [] := List.length_eq_zero_iff.1 h0
    have hown' := hown
    obtain ⟨_, ⟨e, _⟩ | ⟨g, cap, cur, rfl, hg, hh, hn, hc, hsz, ht⟩⟩ := hown
    · exact absurd e hv
    · have hsrc : Src Try.prog i0.size 22 (.slice A 0 c) 0 [] w := by
        cases A with
        | none => exact Src.ofNil w Try.underlying22 c
        | some ad => exact Src.ofSlice w Try.underlying22 ad 0 c [] (by simp) (fun j v hj => by simp at hj) (fun v hv => by simp at hv)
      have hrun := run_append_room_src (P := Try.prog) w 22 22 o.type 3 i0 Try.underlying22 hi g 0 l.length cap (.slice A 0 c) 0 [] hsrc (by omega) (fun j hj => by simp at hj) (fun j hj => by simp at hj)
      refine wpList_plain hgd fun K hK => ?_
      have hk2 := hK _ _ (h (.slice (some ⟨g, 0, none⟩) l.length cap) w (by simpa using hown') (by simp) (Below.refl _ _))
      rw [List.length_nil] at hx
      unfold Oper.wp
      simp [execOp, ho, resolve, invoke, builtin, hs, hx, hrun, Result.andThen]
      exact hk2
  · obtain ⟨x0, hx0⟩ := get_zome h0
    obtain ⟨b, o2, rfl, _⟩ := hk 0 _ hx0
    refine wpList_append_own (w := w) hgd s x 22 ho B 3 i0 _ 1 8 Try.underlying22 hi hz0 hz1 hz2 rfl (by decide) v l.length (l.map zv) hs hown ⟨b, o2, none⟩ m.length c (m.map zv) hx (by simp)
      (fun j u hj => ?_) (fun u hu => ?_) (by unfold maxLen; omega) (by omega) hB fun v' w' h1 h2 h3 => h v' w' ?_ (fun e => hv (h3.1 e).1) ?_
    · rw [List.getElem?_map] at hj
      obtain ⟨y, hy, rfl⟩ := Option.map_eq_some_iff.1 hj
      obtain ⟨b3, o3, e, h3⟩ := hk j y hy
      cases e
      rw [show (⟨b, o2, none⟩ : Addr).add j = ⟨b, o2 + j, none⟩ by unfold Addr.add; split <;> simp_all]
      exact h3
    · obtain ⟨y, _, rfl⟩ := List.mem_map.1 hu
      rfl
    · unfold OwnZ
      rw [List.map_append, List.length_append]
      exact h1
    · exact (Below.refl _ _).grown h2 hB hown.ge
end Go.Proofs.Ytpdmkojclgkcnaa.Bt
