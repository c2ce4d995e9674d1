/- Rows that the call owns, told by the one block that an append changes. Own work over any program. -/
import Derived.Maps.AppendAt
import Derived.Test.YtbkokcfmndiedaaGreatDoorGn
namespace Go.Proofs.YtbkokcfmndiedaaGreatDoor
open Go.RowKit

theorem row11_other {w w' : World} {B : Nat} {e : TypeId} {size : Nat} {v : Value} {n : Nat} {xs : List Value} (h : w.ownsRow B e size v n xs) (hb : ∀ g cs, v.ownBlock = some g → w.heap[g]? = some (.cells cs e (0, 0)) → w'.heap[g]? = some (.cells cs e (0, 0))) : w'.ownsRow B e size v n xs := by
  obtain ⟨h0, h | ⟨g, cap, cur, rfl, hg, hh, hr⟩⟩ := h
  · exact ⟨h0, .inl h⟩
  · exact ⟨h0, .inr ⟨g, cap, cur, rfl, hg, hb g cur rfl hh, hr⟩⟩
theorem row11_lt {w : World} {B : Nat} {e : TypeId} {size : Nat} {v : Value} {n : Nat} {xs : List Value} (h : w.ownsRow B e size v n xs) : ∀ g, v.ownBlock = some g → B ≤ g ∧ ∃ cs, w.heap[g]? = some (.cells cs e (0, 0)) := fun g hg => by
  obtain ⟨_, h | ⟨g', cap, cur, rfl, hg', hh, _⟩⟩ := h
  · obtain ⟨rfl, _⟩ := h; simp [Value.ownBlock] at hg
  · simp [Value.ownBlock] at hg; subst hg; exact ⟨hg', cur, hh⟩
theorem row11_keep {w w' : World} {B : Nat} {e : TypeId} {size : Nat} {v : Value} {n : Nat} {xs : List Value} {L : Nat → Prop} (h : w.ownsRow B e size v n xs) (hk : Keep L w w') (hL : ∀ g, v.ownBlock = some g → ¬ L g) : w'.ownsRow B e size v n xs := row11_other h fun g _ hg hh => hk.heap hh (hL g hg)
theorem row11_low {w : World} {B B' : Nat} {e : TypeId} {size : Nat} {v : Value} {n : Nat} {xs : List Value} (h : w.ownsRow B e size v n xs) (hB : B' ≤ B) : w.ownsRow B' e size v n xs := by
  obtain ⟨h0, h | ⟨g, cap, cur, rfl, hg, hr⟩⟩ := h
  · exact ⟨h0, .inl h⟩
  · exact ⟨h0, .inr ⟨g, cap, cur, rfl, by omega, hr⟩⟩
/-- What an append to one row leaves. -/
structure Grown11 (v v' : Value) (w w' : World) : Prop where
  by_ : w.grownBy w' v.ownBlock
  blk : v'.ownBlock = v.ownBlock ∨ v'.ownBlock = some w.heap.size
theorem Grown11.keep {v v' : Value} {w w' : World} (h : Grown11 v v' w w') : Keep (fun i => v.ownBlock = some i) w w' := ⟨h.by_.os, h.by_.tape, h.by_.output, h.by_.size, fun i hi hl => h.by_.block i hi fun e => hl e.symm⟩
end Go.Proofs.YtbkokcfmndiedaaGreatDoor
