import Derived.Test.YtmfbhohjpkmllaaGreatDoorAa
import Derived.Test.YtmfbhohjpkmllaaGreatDoorEt
import Derived.Test.YtmfbhohjpkmllaaGreatDoorM4
import Derived.Test.YtmfbhohjpkmllaaGreatDoorTG
import Derived.Maps.AppendAt
import Derived.Deep.LoopGhost
namespace Go.Proofs.YtmfbhohjpkmllaaGreatDoor
set_option linter.unusedSimpArgs false
set_option linter.unusedVariables false
open Go.RowKit
def dC (k : List UInt8) : List Value := k.map bv
def DS (w : World) (A : Option Addr) (ds : List (List UInt8)) : Prop := ∀ i k, ds[i]? = some k → k.length = 32 ∧ ∃ g o, A = some ⟨g, o, none⟩ ∧ w.rangeAt g (o + i * 32) (k.map bv)
theorem DS.hs {w w' : World} {b : Nat} {n : Int} {c : Nat} {A : Option Addr} {ds : List (List UInt8)} (hA : DS w A ds) (h : Hs w b n c) (k : Keep (fun i => i = b) w w') : DS w' A ds := fun i key hi => by
 obtain ⟨h1, g, o, rfl, h3⟩ := hA i key hi
 refine ⟨h1, g, o, rfl, fun j v hv => k.cellAt (h3 j v hv) fun e => ?_⟩
 have e3 : g = b := e
 subst e3
 have h4 := h3 j v hv
 rw [cell_of_cells h] at h4
 obtain ⟨y, hy, rfl⟩ : ∃ y, key[j]? = some y ∧ bv y = v := by
  rw [List.getElem?_map] at hv
  obtain ⟨y, hy, he⟩ := Option.map_eq_some_iff.1 hv
  exact ⟨y, hy, he⟩
 obtain ⟨q, hq⟩ : ∃ q, q = o + i * 32 + j := ⟨_, rfl⟩
 rw [← hq] at h4
 match q, h4 with
 | 0, h4 => cases h4
 | 1, h4 => cases h4
 | q + 2, h4 => simp at h4
theorem DS.nil (w : World) (A : Option Addr) : DS w A [] := fun i k h => by simp at h
theorem ldDig {w : World} {g o : Nat} {k : List UInt8} (h : w.rangeAt g o (k.map bv)) (hk : k.length = 32) : ldA 45 w (.pointer (some ⟨g, o, none⟩)) = .ok (.value (.agg (bA k))) w :=
 ldA_of (t := 45) (w := w) (b := g) (o := o) (cs := k.map bv) h Tryz.underlying45 (by rw [List.length_map, hk]; exact info26)
def OwnD (w : World) (B : Nat) (v : Value) (ds : List (List UInt8)) : Prop := w.ownsRow B 45 32 v ds.length (ds.flatMap dC)
theorem OwnD.nil (w : World) (B : Nat) : OwnD w B (.slice none 0 0) [] := ⟨rfl, .inl ⟨rfl, rfl⟩⟩
theorem OwnD.block {w w' : World} {B : Nat} {v : Value} {ds : List (List UInt8)} (h : OwnD w B v ds) (hb : ∀ g, B ≤ g → g < w.heap.size → w'.heap[g]? = w.heap[g]?) : OwnD w' B v ds := by
 obtain ⟨h0, h | ⟨g, cap, cur, rfl, hg, hh, hr⟩⟩ := h
 ·exact ⟨h0, .inl h⟩
 ·exact ⟨h0, .inr ⟨g, cap, cur, rfl, hg, by rw [hb g hg (lt_of_heap hh)]; exact hh, hr⟩⟩
end Go.Proofs.YtmfbhohjpkmllaaGreatDoor
