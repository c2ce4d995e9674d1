import Derived.Test.YtmfbhohjpkmllaaGreatDoorM3
set_option linter.unusedSimpArgs false
set_option linter.unusedVariables false
namespace Go.Proofs.YtmfbhohjpkmllaaGreatDoor.Bt
open Go.RowKit
def hasK (k : Nat → Nat) (i : Int) : Bool := bitI k i == 1
def insK (k : Nat → Nat) (i : Int) : Nat → Nat := if hasK k i = true then k else flipI k i
def ofFrom (k : Nat → Nat) (l : List Int) : Nat → Nat := l.foldl insK k
def ofK (l : List Int) : Nat → Nat := ofFrom kz l
end Go.Proofs.YtmfbhohjpkmllaaGreatDoor.Bt
