/-
  DERIVED. GIVEN WITH THE SEED: THE CARDS: each row of YtnmbbfndboohjaaGreatDoorRows.lean that lists a variable, with what it lists TIED to the program's text (the seventh form; the later family's looks); each row that meets fmt, with fmt's text TOLD by the authors' own Lean function (tested against real Go, not proved from fmt's source: count such statements apart). THE CARD IS WHAT COUNTS. Prove the row's statement (the work); the ties are given (YtnmbbfndboohjaaGreatDoorTie.lean); close each card by the builder's one call (the guide's Derived/Test/ToyasCard.lean, 'card_holds'). Laid BY PROGRAM, IN A SANDBOX (cutbox-door.mjs). By AI agents, Wed Nov 11 2026. No macro, syntax, notation, axiom, sorry.
-/
import Derived.Test.YtnmbbfndboohjaaGreatDoorRows
import GoSem.ClaimSeven
namespace Go.Proofs.YtnmbbfndboohjaaGreatDoor
namespace Rows

/-- THE TIED CARD OF 'sparsetreelaw16.FoldLeads'. -/
def foldLeadsCard : Claim7 := { stood := { row := foldLeadsRow, standIns := [], harness := (true, "a584abffd559d09a8fb2646c5a5ed3254fa018c378ff20afef01f3dd464ec0af"), looks := true }, kinds := [], alts := [], laidByText := true, laidKinds := [.data, .data], laidTests := true, laidLooks := .later }
def FoldLeadsCardSaid : Prop := Claim7.holds Tryz.pinned (.plain (OpenSpec.ofChange foldLeadsSpec)) foldLeadsCard

/-- THE SECOND FORM's CARD OF 'sparsetreelaw16.FoldLeads'. -/
def foldLeadsUptoCard : Claim7 := { stood := { row := foldLeadsUptoRow, standIns := [], harness := (true, "a584abffd559d09a8fb2646c5a5ed3254fa018c378ff20afef01f3dd464ec0af"), looks := true }, kinds := [], alts := [], laidByText := true, laidKinds := [.data, .data], laidTests := true, laidLooks := .later }
def FoldLeadsUptoCardSaid : Prop := Claim7.holds Tryz.pinned (.plain (OpenSpec.upto foldLeadsSpec)) foldLeadsUptoCard
end Rows
end Go.Proofs.YtnmbbfndboohjaaGreatDoor
