import Derived.Test.YtmfbhohjpkmllaaGreatDoorHc
import Derived.Test.YtmfbhohjpkmllaaGreatDoorM3
import Derived.Deep.AppendLies
import Derived.Deep.AppendSrc
import Derived.Laws.AppendOwn
set_option linter.unusedSimpArgs false
set_option linter.unusedVariables false
namespace Go.Proofs.YtmfbhohjpkmllaaGreatDoor.Bt
open Go.RowKit
theorem bt_lt_heap {w : World} {b : Nat} {o : Obj} (h : w.heap[b]? = some o) : b < w.heap.size := by
 rcases Nat.lt_or_ge b w.heap.size with h' | h'
 ·exact h'
 ·rw [Array.getElem?_eq_none h'] at h; cases h
def zv (x : Int) : Value := .int .i64 x
def ZA (w : World) (A : Option Addr) (l : List Int) : Prop := ∀ (j : Nat) (x : Int), l[j]? = some x → ∃ b o, A = some ⟨b, o, none⟩ ∧ w.cell? ⟨b, o + j, none⟩ = some (.int .i64 x)
theorem infoZ : (Tryz.prog.info? 3).map (fun i => (i.zero, i.size, i.bytes)) = some (some (.int .i64 0), 1, 8) := by kernel_rfl
def OwnZ (w : World) (B : Nat) (v : Value) (l : List Int) : Prop := w.ownsRow B 3 1 v l.length (l.map zv)
theorem OwnZ.nil (w : World) (B : Nat) : OwnZ w B (.slice none 0 0) [] := ⟨rfl, .inl ⟨rfl, rfl⟩⟩
theorem OwnZ.below {w w' : World} {B : Nat} {v : Value} {l : List Int} (h : OwnZ w B v l) (hb : Below w.heap.size w w') : OwnZ w' B v l := by
 obtain ⟨h0, h | ⟨g, cap, cur, rfl, hg, hh, hr⟩⟩ := h
 ·exact ⟨h0, .inl h⟩
 ·exact ⟨h0, .inr ⟨g, cap, cur, rfl, hg, by rw [hb.block g (bt_lt_heap hh)]; exact hh, hr⟩⟩
theorem OwnZ.mono {w : World} {B B' : Nat} {v : Value} {l : List Int} (h : OwnZ w B v l) (hB : B' ≤ B) : OwnZ w B' v l := by
 obtain ⟨h0, h | ⟨g, cap, cur, hv, hg, hr⟩⟩ := h
 ·exact ⟨h0, .inl h⟩
 ·exact ⟨h0, .inr ⟨g, cap, cur, hv, by omega, hr⟩⟩
theorem OwnZ.ge {w : World} {B : Nat} {v : Value} {l : List Int} (h : OwnZ w B v l) : ∀ k, v.ownBlock = some k → B ≤ k := fun k hk => by
 obtain ⟨_, h | ⟨g, cap, cur, rfl, hg, _⟩⟩ := h
 ·obtain ⟨rfl, _⟩ := h; simp [Value.ownBlock] at hk
 ·simp [Value.ownBlock] at hk; omega
theorem OwnZ.is {w : World} {B : Nat} {v : Value} {l : List Int} (h : OwnZ w B v l) : ∃ A c, v = .slice A l.length c ∧ ZA w A l := by
 obtain ⟨h0, ⟨rfl, h⟩ | ⟨g, cap, cur, rfl, hg, hh, hn, hc, hs, ht⟩⟩ := h
 ·exact ⟨none, 0, by rw [h], fun i x hi => by
   have : l = [] := List.length_eq_zero_iff.1 h
   subst this; simp at hi⟩
 ·refine ⟨_, _, rfl, fun i x hi => ⟨g, 0, rfl, ?_⟩⟩
  rw [Nat.zero_add, cell_of_row _ _ _ _ _ _ hh, ← Array.getElem?_toList]
  have hlt : i < l.length := (List.getElem?_eq_some_iff.1 hi).1
  have : (cur.toList.take (l.length * 1))[i]? = some (zv x) := by rw [ht]; simp [hi]
  rw [List.getElem?_take_of_lt (by omega)] at this
  exact this
theorem wpList_pushZ {ops : Array Oper} {rest : List Oper} {o : Oper} {a : Act} {w : World} {Q : Exit → Act → World → Prop} (hgd : o.guard = none) (s x : Operand)
  (ho : o.op = .call { callee := .builtin .append, args := #[s, x], argTypes := #[54, 54] }) (B : Nat) (v : Value) (l : List Int) (hs : a.eval s = v) (hown : OwnZ w B v l) (g : Nat) (d : Int)
  (hx : a.eval x = .slice (some ⟨g, 0, none⟩) 1 1) (hr : w.cell? ⟨g, 0, none⟩ = some (.int .i64 d)) (hl : l.length ≤ 1000000) (hB : B ≤ w.heap.size)
  (h : ∀ v' w', OwnZ w' B v' (l ++ [d]) → Below B w w' → wpList Tryz.prog ops Q rest (a.put o.dst v') w') : wpList Tryz.prog ops Q (o :: rest) a w := by
 obtain ⟨i0, hi, hz0, hz1, hz2⟩ := info_parts infoZ
 refine wpList_append_own (w := w) hgd s x 54 ho B 3 i0 _ 1 8 Tryz.underlying54 hi hz0 hz1 hz2 rfl (by decide) v l.length (l.map zv) hs hown ⟨g, 0, none⟩ 1 1 [zv d] hx rfl
  (fun j u hj => ?_) (fun u hu => ?_) (by unfold maxLen; omega) (by omega) hB fun v' w' h1 h2 _ => h v' w' ?_ ?_
 ·match j, hj with
  | 0, hj =>
   simp at hj
   rw [← hj]
   simpa [Addr.add, zv] using hr
 ·simp at hu; subst hu; rfl
 ·unfold OwnZ
  rw [List.map_append, List.length_append]
  simpa using h1
 ·exact (Below.refl _ _).grown h2 hB hown.ge
end Go.Proofs.YtmfbhohjpkmllaaGreatDoor.Bt
