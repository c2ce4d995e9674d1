/- One word is appended to a row that the call owns: the cells that stood there read as before. -/
import Derived.Test.YtffgeoeoodogiaaDoorKit
import Derived.Deep.RegionLaw
import Derived.Deep.RegionLawGrows
namespace Go.Proofs.YtffgeoeoodogiaaDoor
open Go.RowKit

theorem step_push_u {ops : Array Oper} {o : Oper} {a : Act} {w : World} {K : Act → World → Prop} {Q : Exit → Act → World → Prop} {E : Prop} (hgd : o.guard = none) (s x : Operand)
    (ho : o.op = .call { callee := .builtin .append, args := #[s, x], argTypes := #[63, 63] }) (B g n cap : Nat) (l : List UInt32) (hn : l.length = n) (hs : a.eval s = .slice (some ⟨g, 0, none⟩) n cap) (hown : OwnW w B (.slice (some ⟨g, 0, none⟩) n cap) l)
    (ad : Addr) (y : UInt32) (hx : a.eval x = .slice (some ad) 1 1) (hk : w.cell? ad = some (u y)) (hl : n ≤ 400000)
    (h : ∀ v' w', OwnW w' B v' (l ++ [y]) → w.grownBy w' (some g) → (∀ j, j < n → w'.cell? ⟨g, j, none⟩ = w.cell? ⟨g, j, none⟩) → K (a.put o.dst v') w') :
    if Region.wanted o (yielded ops a.tmps) = true then Oper.wp Tryd.prog o a w K Q else E := by
  subst hn
  obtain ⟨i0, hi, hz0, hz1, hz2⟩ := info_parts info38
  obtain ⟨h0, hx0 | ⟨g', cap', cur, e, hg, hh, hnc, hcm, hcs, hct⟩⟩ := hown
  · obtain ⟨e, _⟩ := hx0; cases e
  · cases e
    have hglt := lt_of_heap hh
    have hnews : ∀ j v, [u y][j]? = some v → w.cell? (ad.add j) = some v := fun j v hj => by
      match j, hj with
      | 0, hj => simp at hj; subst hj; simpa [Addr.add] using hk
    have hone : ∀ v ∈ [u y], v.oneCell' = true := fun v hv => by simp at hv; subst hv; rfl
    by_cases hroom : l.length + 1 ≤ cap
    · refine step_append_room hgd s x 63 ho 61 i0 1 Tryd.underlying63 hi hz1 g 0 l.length cap hs ad 1 1 [u y] hx rfl hnews hone hroom (fun j hj => ?_) ?_
      · have : j = 0 := by simpa using hj
        subst this
        constructor
        · rw [cell_of_cells hh]; simp [show l.length < cur.size by omega]
        · simp [World.frozen?, hh]
      · have hw : w.setCells g (0 + l.length * 1) [u y] = w.setCell ⟨g, l.length, none⟩ (u y) := by simp [World.setCells]
        rw [hw]
        have hh2 : (w.setCell ⟨g, l.length, none⟩ (u y)).heap[g]? = some (.cells (cur.setIfInBounds l.length (u y)) 61 (0, 0)) := by simp [World.setCell, Array.getElem?_modify, hh]
        refine h _ _ ?_ ?_ ?_
        · unfold OwnW
          rw [List.map_append, List.length_append]
          refine ⟨by simp [List.length_map], .inr ⟨g, cap, _, rfl, hg, hh2, hroom, hcm, by simpa using hcs, ?_⟩⟩
          rw [Nat.mul_one] at hct
          rw [Nat.mul_one]
          rw [Array.toList_setIfInBounds, show l.length + [y].length = l.length + 1 from rfl, List.take_add_one, List.take_set_of_le (Nat.le_refl l.length), hct, List.getElem?_set_self (by simp; omega)]
          rfl
        · exact ⟨rfl, rfl, rfl, by simp [World.setCell], fun k _ hk => Below.heap_setCell _ _ _ _ (fun e => hk (by simp [e]))⟩
        · intro j hj
          rw [cell_of_cells hh2, cell_of_cells hh, Array.getElem?_setIfInBounds_ne (by omega)]
    · refine step_append_grows hgd s x 63 ho 61 i0 (.int .u32 0) 1 4 Tryd.underlying63 hi hz0 hz1 hz2 rfl (by decide) (some ⟨g, 0, none⟩) l.length cap (l.map u) hs (fun e => by cases e) (by simp) (fun b hb j v hj => ?_) ad 1 1 [u y] hx rfl hnews hone (by omega) (by unfold maxLen; omega) (by omega) fun v' w' h1 h2 => h v' w' ?_ ?_ ?_
      · cases hb
        rw [show (⟨g, 0, none⟩ : Addr).add j = ⟨g, j, none⟩ by unfold Addr.add; split <;> simp_all, cell_of_cells hh, ← Array.getElem?_toList]
        have hjl : j < l.length := by simpa using (List.getElem?_eq_some_iff.1 hj).1
        rw [← hct, List.getElem?_take_of_lt (by omega)] at hj
        exact hj
      · unfold OwnW
        rw [List.map_append, List.length_append]
        obtain ⟨h3, h4 | ⟨g2, c2, cur2, e2, hg2, hr2⟩⟩ := h1
        · exact ⟨h3, .inl h4⟩
        · exact ⟨h3, .inr ⟨g2, c2, cur2, e2, by omega, hr2⟩⟩
      · exact ⟨h2.os, h2.tape, h2.output, h2.size, fun k hk _ => h2.block k hk (by simp)⟩
      · intro j _
        exact World.cell?_of_block (w := w) (a := ⟨g, j, none⟩) (h2.block g hglt (by simp))
end Go.Proofs.YtffgeoeoodogiaaDoor
