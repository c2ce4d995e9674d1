import Derived.Test.YtmfbhohjpkmllaaGreatDoorMT
namespace Go.Proofs.YtmfbhohjpkmllaaGreatDoor
set_option linter.unusedSimpArgs false
set_option linter.unusedVariables false
open Go.RowKit
def hasK (l : List Ent) (k : List UInt8) : Bool := l.any fun e => decide (e.k = k)
def KS (w : World) (A : Option Addr) (ks : List (List UInt8)) : Prop := ∀ i k, ks[i]? = some k → k.length = 32 ∧ ∃ g o, A = some ⟨g, o, none⟩ ∧ w.rangeAt g (o + i * 32) (k.map bv)
theorem KS.below {w w' : World} {A : Option Addr} {ks : List (List UInt8)} (h : KS w A ks) (hb : Below w.heap.size w w') : KS w' A ks := fun i k hi => by
 obtain ⟨h1, g, o, h2, h3⟩ := h i k hi
 exact ⟨h1, g, o, h2, range_below h3 hb⟩
structure RmV (M : World → Int → Tv → Prop) : Prop where
end Go.Proofs.YtmfbhohjpkmllaaGreatDoor
