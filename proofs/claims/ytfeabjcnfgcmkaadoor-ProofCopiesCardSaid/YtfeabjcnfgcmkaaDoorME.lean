/- Several texts in one: Ep Ec Ea Eb. -/
import Derived.Test.YtfeabjcnfgcmkaaDoorEt
/- Preimages as lists: plain facts. -/
namespace Go.Proofs.YtfeabjcnfgcmkaaDoor

def leafL (k d : List UInt8) : List UInt8 := 0 :: (k ++ d)
def nodeL (a b : List UInt8) : List UInt8 := 1 :: (a ++ b)
def valL (b : List UInt8) : List UInt8 := 2 :: b
def emptyL : List UInt8 := [3]
/-- The kind of a preimage, or -1. -/
def kindL (b : List UInt8) : Int :=
  match b with
  | [] => -1
  | x :: r => if (x.toNat ≤ 1 ∧ r.length = 64) ∨ x.toNat = 2 ∨ (x.toNat = 3 ∧ r.length = 0) then (x.toNat : Int) else -1
/-- 32 bytes of a preimage. -/
def partL (b : List UInt8) (o : Nat) : List UInt8 := (b.drop o).take 32
theorem leaf_len {k d : List UInt8} (hk : k.length = 32) (hd : d.length = 32) : (leafL k d).length = 65 := by simp [leafL, hk, hd]
theorem node_len {k d : List UInt8} (hk : k.length = 32) (hd : d.length = 32) : (nodeL k d).length = 65 := by simp [nodeL, hk, hd]
theorem val_len (b : List UInt8) : (valL b).length = b.length + 1 := by simp [valL]
theorem kind_leaf {k d : List UInt8} (hk : k.length = 32) (hd : d.length = 32) : kindL (leafL k d) = 0 := by simp [kindL, leafL, hk, hd]
theorem kind_node {k d : List UInt8} (hk : k.length = 32) (hd : d.length = 32) : kindL (nodeL k d) = 1 := by simp [kindL, nodeL, hk, hd]
theorem kind_val (b : List UInt8) : kindL (valL b) = 2 := by simp [kindL, valL]
theorem kind_empty : kindL emptyL = 3 := by simp [kindL, emptyL]
def kindN (n r : Nat) : Int := if (n ≤ 1 ∧ r = 64) ∨ n = 2 ∨ (n = 3 ∧ r = 0) then (n : Int) else -1
theorem kindL_cons (x : UInt8) (r : List UInt8) : kindL (x :: r) = kindN x.toNat r.length := rfl
theorem kindN_cases (n r : Nat) : kindN n r = -1 ∨ kindN n r = 0 ∧ r = 64 ∨ kindN n r = 1 ∧ r = 64 ∨ kindN n r = 2 ∨ kindN n r = 3 := by
  unfold kindN
  by_cases h : (n ≤ 1 ∧ r = 64) ∨ n = 2 ∨ (n = 3 ∧ r = 0)
  · rw [if_pos h]; omega
  · rw [if_neg h]; omega
theorem kind_cases (b : List UInt8) : kindL b = -1 ∨ kindL b = 0 ∨ kindL b = 1 ∨ kindL b = 2 ∨ kindL b = 3 := by
  match b with
  | [] => left; rfl
  | x :: r =>
    rw [kindL_cons]
    have := kindN_cases x.toNat r.length
    omega
theorem kind01 {b : List UInt8} (h : kindL b = 0 ∨ kindL b = 1) : b.length = 65 := by
  match b, h with
  | [], h => simp [kindL] at h
  | x :: r, h =>
    rw [kindL_cons] at h
    have := kindN_cases x.toNat r.length
    rw [List.length_cons]
    omega
theorem part_len {b : List UInt8} {o : Nat} (h : o + 32 ≤ b.length) : (partL b o).length = 32 := by
  unfold partL
  rw [List.length_take, List.length_drop]
  omega
theorem part_leaf1 {k : List UInt8} (d : List UInt8) (hk : k.length = 32) : partL (leafL k d) 1 = k := by
  simp [partL, leafL, hk]
theorem part_leaf33 {k d : List UInt8} (hk : k.length = 32) (hd : d.length = 32) : partL (leafL k d) 33 = d := by
  simp [partL, leafL, hk, hd, List.take_of_length_le]
theorem part_node1 {k : List UInt8} (d : List UInt8) (hk : k.length = 32) : partL (nodeL k d) 1 = k := by
  simp [partL, nodeL, hk]
theorem part_node33 {k d : List UInt8} (hk : k.length = 32) (hd : d.length = 32) : partL (nodeL k d) 33 = d := by
  simp [partL, nodeL, hk, hd, List.take_of_length_le]
theorem leaf_inj {k d k' d' : List UInt8} : leafL k d = leafL k' d' ↔ k ++ d = k' ++ d' := by
  constructor
  · intro h; exact (List.cons.inj h).2
  · intro h; unfold leafL; rw [h]
theorem leaf_node (k d k' d' : List UInt8) : leafL k d ≠ nodeL k' d' := by simp [leafL, nodeL]
theorem leaf_val (k d b : List UInt8) : leafL k d ≠ valL b := by simp [leafL, valL]
theorem node_val (k d b : List UInt8) : nodeL k d ≠ valL b := by simp [nodeL, valL]
theorem val_empty (b : List UInt8) : valL b ≠ emptyL := by simp [valL, emptyL]
theorem val_inj {a b : List UInt8} : valL a = valL b ↔ a = b := by simp [valL]
open Go.RowKit
theorem own_made (w : World) (x : UInt8) : OwnB (w.alloc (.cells #[bv x] 5)) w.heap.size (.slice (some ⟨w.heap.size, 0, none⟩) 1 1) [x] :=
  ⟨rfl, .inr ⟨w.heap.size, 1, #[bv x], rfl, Nat.le_refl _, heap_alloc_new w _, Nat.le_refl _, by unfold maxLen; omega, rfl, rfl⟩⟩
theorem take_next {l : List UInt8} {k : Nat} (h : k < l.length) : l.take (k + 1) = l.take k ++ [l.getD k 0] := by
  rw [List.take_add_one, List.getD_eq_getElem?_getD, List.getElem?_eq_getElem h]
  rfl
end Go.Proofs.YtfeabjcnfgcmkaaDoor

/- The reference's Value. -/
namespace Go.Proofs.YtfeabjcnfgcmkaaDoor
open Go.RowKit
end Go.Proofs.YtfeabjcnfgcmkaaDoor

/- The reference's two, Leaf and Node. -/
namespace Go.Proofs.YtfeabjcnfgcmkaaDoor
open Go.RowKit
end Go.Proofs.YtfeabjcnfgcmkaaDoor

/- The reference's Leaf and Node. -/
namespace Go.Proofs.YtfeabjcnfgcmkaaDoor
open Go.RowKit

/-- Bytes of a row from a place on. -/
theorem range_row {w : World} {b : Nat} {l : List UInt8} {t : TypeId} {fr : Nat × Nat} (h : w.heap[b]? = some (.cells (bA l) t fr)) (o n : Nat) : w.rangeAt b o (((l.drop o).take n).map bv) := fun j v hv => by
  rw [cell_of_cells h]
  rw [List.getElem?_map, List.getElem?_take] at hv
  split at hv
  · rw [List.getElem?_drop] at hv
    obtain ⟨x, hx, rfl⟩ := Option.map_eq_some_iff.1 hv
    have hlt := (List.getElem?_eq_some_iff.1 hx).1
    rw [bA_at _ _ hlt]
    simp [List.getD_eq_getElem?_getD, hx]
  · simp at hv
theorem ldA_part {w : World} {b : Nat} {l : List UInt8} {t t' : TypeId} {e n : Nat} {fr : Nat × Nat} (h : w.heap[b]? = some (.cells (bA l) t' fr)) (o : Nat) (hu : Tryd.prog.underlying t = some (.array n e)) (hi : (Tryd.prog.info? t).map (·.size) = some ((l.drop o).take 32).length) :
    ldA t w (.pointer (some ⟨b, o, none⟩)) = .ok (.value (.agg (bA ((l.drop o).take 32)))) w := by
  have := ldA_of (t := t) (range_row h o 32) hu (by rw [hi, List.length_map])
  rwa [show (((l.drop o).take 32).map bv).toArray = bA ((l.drop o).take 32) from rfl] at this
end Go.Proofs.YtfeabjcnfgcmkaaDoor
