/- A slice of keys, written out: its run, folded. -/
import Derived.Test.YthpbfmjogecbmaaF
namespace Go.Proofs.Ythpbfmjogecbmaa
open Go.RowKit

noncomputable def bsKeys (w : World) (n : Nat) (parts : Array (Nat × Value)) : Result Next := Sem.run Try.prog (do pure (.value (← Instr.buildSlice 38 n parts))) w
@[go_sem ↓] theorem execOp_build_keys (ρ : Operand → Value) (dst : Option Tmp) (n : Nat) (parts : Array (Nat × Operand)) (type : TypeId) (pos : String) (after : Array Edge) (guard : Option (Nat × Bool)) (w : World) :
    Sem.run Try.prog (execOp ρ { dst, op := .buildSlice 38 n parts, type, pos, after, guard }) w = bsKeys w n (parts.map fun x => (x.1, ρ x.2)) := rfl
@[go_sem] theorem bsKeys_none (w : World) : bsKeys w 0 #[] = .ok (.value (.slice (some ⟨w.heap.size, 0, none⟩) 0 0)) (w.alloc (.cells #[] 24)) := by kernel_rfl
@[go_sem] theorem bsKeys_one (w : World) (k : Nat → Nat) : bsKeys w 1 #[(0, .agg (kc k))] = .ok (.value (.slice (some ⟨w.heap.size, 0, none⟩) 1 1)) (w.alloc (.cells (kc k) 24)) := by kernel_rfl
@[go_sem] theorem bsKeys_two (w : World) (a b : Nat → Nat) : bsKeys w 2 #[(0, .agg (kc a)), (1, .agg (kc b))] = .ok (.value (.slice (some ⟨w.heap.size, 0, none⟩) 2 2)) (w.alloc (.cells ((kc a).toList ++ (kc b).toList).toArray 24)) := by kernel_rfl
@[go_sem] theorem bsKeys_three (w : World) (a b c : Nat → Nat) : bsKeys w 3 #[(0, .agg (kc a)), (1, .agg (kc b)), (2, .agg (kc c))] = .ok (.value (.slice (some ⟨w.heap.size, 0, none⟩) 3 3)) (w.alloc (.cells ((kc a).toList ++ (kc b).toList ++ (kc c).toList).toArray 24)) := by kernel_rfl
end Go.Proofs.Ythpbfmjogecbmaa
