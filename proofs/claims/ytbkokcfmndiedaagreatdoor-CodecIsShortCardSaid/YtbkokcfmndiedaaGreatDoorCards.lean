/-
  DERIVED. GIVEN WITH THE SEED: THE CARDS: each row of YtbkokcfmndiedaaGreatDoorRows.lean that lists a variable, with what it lists TIED to the program's text (the seventh form; the later family's looks); each row that meets fmt, with fmt's text TOLD by the authors' own Lean function (tested against real Go, not proved from fmt's source: count such statements apart). THE CARD IS WHAT COUNTS. Prove the row's statement (the work); the ties are given (YtbkokcfmndiedaaGreatDoorTie.lean); close each card by the builder's one call (the guide's Derived/Test/ToyasCard.lean, 'card_holds'). Laid BY PROGRAM, IN A SANDBOX (cutbox-door.mjs). By AI agents, Wed Nov 11 2026. No macro, syntax, notation, axiom, sorry.
-/
import Derived.Test.YtbkokcfmndiedaaGreatDoorRows
import GoSem.ClaimSeven
namespace Go.Proofs.YtbkokcfmndiedaaGreatDoor
namespace Rows

/-- THE TIED CARD OF 'sparsetreelaw17.CodecIsShort'. -/
def codecIsShortCard : Claim7 := { stood := { row := codecIsShortRow, standIns := [], harness := (true, "fd9c6a343074185a9e2248fca427d79e5371a39a1703189fd07e4647ae79f97c"), looks := true }, kinds := [], alts := [], laidByText := true, laidKinds := [.data, .data], laidTests := true, laidLooks := .later }
def CodecIsShortCardSaid : Prop := Claim7.holds Tryz.pinned (.plain (OpenSpec.ofChange codecIsShortSpec)) codecIsShortCard

/-- THE SECOND FORM's CARD OF 'sparsetreelaw17.CodecIsShort'. -/
def codecIsShortUptoCard : Claim7 := { stood := { row := codecIsShortUptoRow, standIns := [], harness := (true, "fd9c6a343074185a9e2248fca427d79e5371a39a1703189fd07e4647ae79f97c"), looks := true }, kinds := [], alts := [], laidByText := true, laidKinds := [.data, .data], laidTests := true, laidLooks := .later }
def CodecIsShortUptoCardSaid : Prop := Claim7.holds Tryz.pinned (.plain (OpenSpec.upto codecIsShortSpec)) codecIsShortUptoCard
end Rows
end Go.Proofs.YtbkokcfmndiedaaGreatDoor
