import Derived.Test.YtmfbhohjpkmllaaGreatDoorYa
import Derived.Test.YtmfbhohjpkmllaaGreatDoorTG
import Derived.Test.YtmfbhohjpkmllaaGreatDoorM4
namespace Go.Proofs.YtmfbhohjpkmllaaGreatDoor
set_option linter.unusedSimpArgs false
set_option linter.unusedVariables false
open Go.RowKit
theorem range_keyS {w : World} {g o : Nat} {k : List UInt8} (h : w.rangeAt g o (k.map bv)) (hk : k.length = 32) : ldA 39 w (.pointer (some ⟨g, o, none⟩)) = .ok (.value (.agg (bA k))) w :=
 ldA_of (t := 39) (w := w) (b := g) (o := o) (cs := k.map bv) h Tryz.underlying39 (by rw [List.length_map, hk]; exact infoKey)
noncomputable def bsS (w : World) (n : Nat) (parts : Array (Nat × Value)) : Result Next := Sem.run Tryz.prog (do pure (.value (← Instr.buildSlice 23 n parts))) w
@[go_sem ↓] theorem execOp_build_keyS (ρ : Operand → Value) (dst : Option Tmp) (n : Nat) (parts : Array (Nat × Operand)) (type : TypeId) (pos : String) (after : Array Edge) (guard : Option (Nat × Bool)) (w : World) :
  Sem.run Tryz.prog (execOp ρ { dst, op := .buildSlice 23 n parts, type, pos, after, guard }) w = bsS w n (parts.map fun x => (x.1, ρ x.2)) := rfl
def cS (k : List UInt8) : List Value := k.map bv
def OwnS (w : World) (B : Nat) (v : Value) (ks : List (List UInt8)) : Prop := w.ownsRow B 39 32 v ks.length (ks.flatMap cS)
theorem OwnS.nil (w : World) (B : Nat) : OwnS w B (.slice none 0 0) [] := ⟨rfl, .inl ⟨rfl, rfl⟩⟩
end Go.Proofs.YtmfbhohjpkmllaaGreatDoor
