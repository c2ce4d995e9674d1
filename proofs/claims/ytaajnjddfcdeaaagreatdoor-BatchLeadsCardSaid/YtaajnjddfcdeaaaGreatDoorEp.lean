/- Preimages as lists: plain facts. -/
import Derived.Test.YtaajnjddfcdeaaaGreatDoorEt
namespace Go.Proofs.YtaajnjddfcdeaaaGreatDoor

def leafL (k d : List UInt8) : List UInt8 := 0 :: (k ++ d)
def nodeL (a b : List UInt8) : List UInt8 := 1 :: (a ++ b)
def valL (b : List UInt8) : List UInt8 := 2 :: b
def emptyL : List UInt8 := [3]
theorem leaf_len {k d : List UInt8} (hk : k.length = 32) (hd : d.length = 32) : (leafL k d).length = 65 := by simp [leafL, hk, hd]
theorem node_len {k d : List UInt8} (hk : k.length = 32) (hd : d.length = 32) : (nodeL k d).length = 65 := by simp [nodeL, hk, hd]
theorem val_len (b : List UInt8) : (valL b).length = b.length + 1 := by simp [valL]
open Go.RowKit
theorem own_made (w : World) (x : UInt8) : OwnB (w.alloc (.cells #[bv x] 5)) w.heap.size (.slice (some ⟨w.heap.size, 0, none⟩) 1 1) [x] :=
  ⟨rfl, .inr ⟨w.heap.size, 1, #[bv x], rfl, Nat.le_refl _, heap_alloc_new w _, Nat.le_refl _, by unfold maxLen; omega, rfl, rfl⟩⟩
theorem take_next {l : List UInt8} {k : Nat} (h : k < l.length) : l.take (k + 1) = l.take k ++ [l.getD k 0] := by
  rw [List.take_add_one, List.getD_eq_getElem?_getD, List.getElem?_eq_getElem h]
  rfl
end Go.Proofs.YtaajnjddfcdeaaaGreatDoor
