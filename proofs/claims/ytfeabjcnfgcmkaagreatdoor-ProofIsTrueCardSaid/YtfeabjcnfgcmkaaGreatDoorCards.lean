/-
  DERIVED. GIVEN WITH THE SEED: THE CARDS: each row of YtfeabjcnfgcmkaaGreatDoorRows.lean that lists a variable, with what it lists TIED to the program's text (the seventh form; the later family's looks); each row that meets fmt, with fmt's text TOLD by the authors' own Lean function (tested against real Go, not proved from fmt's source: count such statements apart). THE CARD IS WHAT COUNTS. Prove the row's statement (the work); the ties are given (YtfeabjcnfgcmkaaGreatDoorTie.lean); close each card by the builder's one call (the guide's Derived/Test/ToyasCard.lean, 'card_holds'). Laid BY PROGRAM, IN A SANDBOX (cutbox-door.mjs). By AI agents, Wed Nov 11 2026. No macro, syntax, notation, axiom, sorry.
-/
import Derived.Test.YtfeabjcnfgcmkaaGreatDoorRows
import GoSem.ClaimSeven
namespace Go.Proofs.YtfeabjcnfgcmkaaGreatDoor
namespace Rows

/-- THE TIED CARD OF 'sparsetreelaw15.ProofProves'. -/
def proofProvesCard : Claim7 := { stood := { row := proofProvesRow, standIns := [], harness := (true, "9dfaef25f2bf23ba43d810207785db67c01c8442d7524f94cf6a06632a95e248"), looks := true }, kinds := [], alts := [], laidByText := true, laidKinds := [.data, .data], laidTests := true, laidLooks := .later }
def ProofProvesCardSaid : Prop := Claim7.holds Tryz.pinned (.plain (OpenSpec.ofChange proofProvesSpec)) proofProvesCard

/-- THE TIED CARD OF 'sparsetreelaw15.ProofIsTrue'. -/
def proofIsTrueCard : Claim7 := { stood := { row := proofIsTrueRow, standIns := [], harness := (true, "9dfaef25f2bf23ba43d810207785db67c01c8442d7524f94cf6a06632a95e248"), looks := true }, kinds := [], alts := [], laidByText := true, laidKinds := [.data, .data], laidTests := true, laidLooks := .later }
def ProofIsTrueCardSaid : Prop := Claim7.holds Tryz.pinned (.plain (OpenSpec.ofChange proofIsTrueSpec)) proofIsTrueCard

/-- THE TIED CARD OF 'sparsetreelaw15.ProofExpands'. -/
def proofExpandsCard : Claim7 := { stood := { row := proofExpandsRow, standIns := [], harness := (true, "9dfaef25f2bf23ba43d810207785db67c01c8442d7524f94cf6a06632a95e248"), looks := true }, kinds := [], alts := [], laidByText := true, laidKinds := [.data, .data], laidTests := true, laidLooks := .later }
def ProofExpandsCardSaid : Prop := Claim7.holds Tryz.pinned (.plain (OpenSpec.ofChange proofExpandsSpec)) proofExpandsCard

/-- THE SECOND FORM's CARD OF 'sparsetreelaw15.ProofProves'. -/
def proofProvesUptoCard : Claim7 := { stood := { row := proofProvesUptoRow, standIns := [], harness := (true, "9dfaef25f2bf23ba43d810207785db67c01c8442d7524f94cf6a06632a95e248"), looks := true }, kinds := [], alts := [], laidByText := true, laidKinds := [.data, .data], laidTests := true, laidLooks := .later }
def ProofProvesUptoCardSaid : Prop := Claim7.holds Tryz.pinned (.plain (OpenSpec.upto proofProvesSpec)) proofProvesUptoCard

/-- THE SECOND FORM's CARD OF 'sparsetreelaw15.ProofIsTrue'. -/
def proofIsTrueUptoCard : Claim7 := { stood := { row := proofIsTrueUptoRow, standIns := [], harness := (true, "9dfaef25f2bf23ba43d810207785db67c01c8442d7524f94cf6a06632a95e248"), looks := true }, kinds := [], alts := [], laidByText := true, laidKinds := [.data, .data], laidTests := true, laidLooks := .later }
def ProofIsTrueUptoCardSaid : Prop := Claim7.holds Tryz.pinned (.plain (OpenSpec.upto proofIsTrueSpec)) proofIsTrueUptoCard

/-- THE SECOND FORM's CARD OF 'sparsetreelaw15.ProofExpands'. -/
def proofExpandsUptoCard : Claim7 := { stood := { row := proofExpandsUptoRow, standIns := [], harness := (true, "9dfaef25f2bf23ba43d810207785db67c01c8442d7524f94cf6a06632a95e248"), looks := true }, kinds := [], alts := [], laidByText := true, laidKinds := [.data, .data], laidTests := true, laidLooks := .later }
def ProofExpandsUptoCardSaid : Prop := Claim7.holds Tryz.pinned (.plain (OpenSpec.upto proofExpandsSpec)) proofExpandsUptoCard
end Rows
end Go.Proofs.YtfeabjcnfgcmkaaGreatDoor
