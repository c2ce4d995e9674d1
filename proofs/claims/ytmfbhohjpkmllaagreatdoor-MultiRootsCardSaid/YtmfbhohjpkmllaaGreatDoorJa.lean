import Derived.Test.YtmfbhohjpkmllaaGreatDoorJp
import Derived.Test.YtmfbhohjpkmllaaGreatDoorTG
import Derived.Test.YtmfbhohjpkmllaaGreatDoorM4
import Derived.Test.YtmfbhohjpkmllaaGreatDoorM6
namespace Go.Proofs.YtmfbhohjpkmllaaGreatDoor
set_option linter.unusedSimpArgs false
set_option linter.unusedVariables false
open Go.RowKit
structure Cn where
 k : List UInt8
 A : Option Addr
 v : List UInt8
 c : Nat
 d : Bool
def cnC (x : Cn) : List Value := x.k.map bv ++ [.slice x.A x.v.length x.c, .bool x.d]
structure CnOk (w : World) (x : Cn) : Prop where
 key : x.k.length = 32
 cap : x.v.length ≤ x.c
 val : BA w x.A x.v
def CA (w : World) (A : Option Addr) (xs : List Cn) : Prop := ∀ i x, xs[i]? = some x → CnOk w x ∧ ∃ g o, A = some ⟨g, o, none⟩ ∧ w.rangeAt g (o + i * 34) (cnC x)
theorem CA.ok {w : World} {A : Option Addr} {xs : List Cn} (h : CA w A xs) : ∀ x ∈ xs, CnOk w x := fun x hx => by
 obtain ⟨i, hi⟩ := List.getElem?_of_mem hx
 exact (h i x hi).1
def OwnC (t : TypeId) (w : World) (B : Nat) (v : Value) (xs : List Cn) : Prop := w.ownsRow B t 34 v xs.length (xs.flatMap cnC)
theorem OwnC.nil (t : TypeId) (w : World) (B : Nat) : OwnC t w B (.slice none 0 0) [] := ⟨rfl, .inl ⟨rfl, rfl⟩⟩
end Go.Proofs.YtmfbhohjpkmllaaGreatDoor
