/-
  DERIVED. GIVEN WITH THE SEED: THE CARDS: each row of YtfeabjcnfgcmkaaDoorRows.lean that lists a variable, with what it lists TIED to the program's text (the seventh form; the later family's looks); each row that meets fmt, with fmt's text TOLD by the authors' own Lean function (tested against real Go, not proved from fmt's source: count such statements apart). THE CARD IS WHAT COUNTS. Prove the row's statement (the work); the ties are given (YtfeabjcnfgcmkaaDoorTie.lean); close each card by the builder's one call (the guide's Derived/Test/ToyasCard.lean, 'card_holds'). Laid BY PROGRAM, IN A SANDBOX (cutbox-door.mjs). By AI agents, Wed Nov 11 2026. No macro, syntax, notation, axiom, sorry.
-/
import Derived.Test.YtfeabjcnfgcmkaaDoorRows
import GoSem.ClaimSeven
namespace Go.Proofs.YtfeabjcnfgcmkaaDoor
namespace Rows

/-- THE TIED CARD OF 'sparsetreelaw15.ProofChecks'. -/
def proofChecksCard : Claim7 := { stood := { row := proofChecksRow, standIns := [], harness := (true, "642b8b1633ea4338305352b2f03efa3d4c8c04237d852ad1214bb14a1efa2eb5"), looks := true }, kinds := [], alts := [], laidByText := true, laidKinds := [.data, .data], laidTests := true, laidLooks := .later }
def ProofChecksCardSaid : Prop := Claim7.holds Tryd.pinned (.plain (OpenSpec.ofChange proofChecksSpec)) proofChecksCard

/-- THE TIED CARD OF 'sparsetreelaw15.ProofSupports'. -/
def proofSupportsCard : Claim7 := { stood := { row := proofSupportsRow, standIns := [], harness := (true, "642b8b1633ea4338305352b2f03efa3d4c8c04237d852ad1214bb14a1efa2eb5"), looks := true }, kinds := [], alts := [], laidByText := true, laidKinds := [.data, .data], laidTests := true, laidLooks := .later }
def ProofSupportsCardSaid : Prop := Claim7.holds Tryd.pinned (.plain (OpenSpec.ofChange proofSupportsSpec)) proofSupportsCard

/-- THE TIED CARD OF 'sparsetreelaw15.ProofCopies'. -/
def proofCopiesCard : Claim7 := { stood := { row := proofCopiesRow, standIns := [], harness := (true, "642b8b1633ea4338305352b2f03efa3d4c8c04237d852ad1214bb14a1efa2eb5"), looks := true }, kinds := [], alts := [], laidByText := true, laidKinds := [.data, .data], laidTests := true, laidLooks := .later }
def ProofCopiesCardSaid : Prop := Claim7.holds Tryd.pinned (.plain (OpenSpec.ofChange proofCopiesSpec)) proofCopiesCard

/-- THE SECOND FORM's CARD OF 'sparsetreelaw15.ProofChecks'. -/
def proofChecksUptoCard : Claim7 := { stood := { row := proofChecksUptoRow, standIns := [], harness := (true, "642b8b1633ea4338305352b2f03efa3d4c8c04237d852ad1214bb14a1efa2eb5"), looks := true }, kinds := [], alts := [], laidByText := true, laidKinds := [.data, .data], laidTests := true, laidLooks := .later }
def ProofChecksUptoCardSaid : Prop := Claim7.holds Tryd.pinned (.plain (OpenSpec.upto proofChecksSpec)) proofChecksUptoCard

/-- THE SECOND FORM's CARD OF 'sparsetreelaw15.ProofSupports'. -/
def proofSupportsUptoCard : Claim7 := { stood := { row := proofSupportsUptoRow, standIns := [], harness := (true, "642b8b1633ea4338305352b2f03efa3d4c8c04237d852ad1214bb14a1efa2eb5"), looks := true }, kinds := [], alts := [], laidByText := true, laidKinds := [.data, .data], laidTests := true, laidLooks := .later }
def ProofSupportsUptoCardSaid : Prop := Claim7.holds Tryd.pinned (.plain (OpenSpec.upto proofSupportsSpec)) proofSupportsUptoCard

/-- THE SECOND FORM's CARD OF 'sparsetreelaw15.ProofCopies'. -/
def proofCopiesUptoCard : Claim7 := { stood := { row := proofCopiesUptoRow, standIns := [], harness := (true, "642b8b1633ea4338305352b2f03efa3d4c8c04237d852ad1214bb14a1efa2eb5"), looks := true }, kinds := [], alts := [], laidByText := true, laidKinds := [.data, .data], laidTests := true, laidLooks := .later }
def ProofCopiesUptoCardSaid : Prop := Claim7.holds Tryd.pinned (.plain (OpenSpec.upto proofCopiesSpec)) proofCopiesUptoCard
end Rows
end Go.Proofs.YtfeabjcnfgcmkaaDoor
