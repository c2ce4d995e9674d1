/-
  DERIVED. GIVEN WITH THE SEED: THE CARDS: each row of YtjhpnlnghaljaaaGreatDoorRows.lean that lists a variable, with what it lists TIED to the program's text (the seventh form; the later family's looks); each row that meets fmt, with fmt's text TOLD by the authors' own Lean function (tested against real Go, not proved from fmt's source: count such statements apart). THE CARD IS WHAT COUNTS. Prove the row's statement (the work); the ties are given (YtjhpnlnghaljaaaGreatDoorTie.lean); close each card by the builder's one call (the guide's Derived/Test/ToyasCard.lean, 'card_holds'). Laid BY PROGRAM, IN A SANDBOX (cutbox-door.mjs). By AI agents, Wed Nov 11 2026. No macro, syntax, notation, axiom, sorry.
-/
import Derived.Test.YtjhpnlnghaljaaaGreatDoorRows
import GoSem.ClaimSeven
namespace Go.Proofs.YtjhpnlnghaljaaaGreatDoor
namespace Rows

/-- THE TIED CARD OF 'sparsetreelaw10.RemovePrunes'. -/
def removePrunesCard : Claim7 := { stood := { row := removePrunesRow, standIns := [], harness := (true, "bef05a7e567117e78cc6f757e125f6f8e6e158aae9dd3ee255a23124caa7c2bd"), looks := true }, kinds := [], alts := [], laidByText := true, laidKinds := [.data, .data], laidTests := true, laidLooks := .later }
def RemovePrunesCardSaid : Prop := Claim7.holds Tryz.pinned (.plain (OpenSpec.ofChange removePrunesSpec)) removePrunesCard

/-- THE SECOND FORM's CARD OF 'sparsetreelaw10.RemovePrunes'. -/
def removePrunesUptoCard : Claim7 := { stood := { row := removePrunesUptoRow, standIns := [], harness := (true, "bef05a7e567117e78cc6f757e125f6f8e6e158aae9dd3ee255a23124caa7c2bd"), looks := true }, kinds := [], alts := [], laidByText := true, laidKinds := [.data, .data], laidTests := true, laidLooks := .later }
def RemovePrunesUptoCardSaid : Prop := Claim7.holds Tryz.pinned (.plain (OpenSpec.upto removePrunesSpec)) removePrunesUptoCard
end Rows
end Go.Proofs.YtjhpnlnghaljaaaGreatDoor
