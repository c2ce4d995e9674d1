/-
  DERIVED. GIVEN WITH THE SEED: THE CARDS: each row of YtmfbhohjpkmllaaGreatDoorRows.lean that lists a variable, with what it lists TIED to the program's text (the seventh form; the later family's looks); each row that meets fmt, with fmt's text TOLD by the authors' own Lean function (tested against real Go, not proved from fmt's source: count such statements apart). THE CARD IS WHAT COUNTS. Prove the row's statement (the work); the ties are given (YtmfbhohjpkmllaaGreatDoorTie.lean); close each card by the builder's one call (the guide's Derived/Test/ToyasCard.lean, 'card_holds'). Laid BY PROGRAM, IN A SANDBOX (cutbox-door.mjs). By AI agents, Wed Nov 11 2026. No macro, syntax, notation, axiom, sorry.
-/
import Derived.Test.YtmfbhohjpkmllaaGreatDoorRows
import GoSem.ClaimSeven
namespace Go.Proofs.YtmfbhohjpkmllaaGreatDoor
namespace Rows

/-- THE TIED CARD OF 'sparsetreelaw19.MultiProves'. -/
def multiProvesCard : Claim7 := { stood := { row := multiProvesRow, standIns := [], harness := (true, "57909e87cc9e08ad0ec52c431872e2e9f70ec6788eb93c50515a2faee1eeed1a"), looks := true }, kinds := [], alts := [], laidByText := true, laidKinds := [.data, .data], laidTests := true, laidLooks := .later }
def MultiProvesCardSaid : Prop := Claim7.holds Tryz.pinned (.plain (OpenSpec.ofChange multiProvesSpec)) multiProvesCard

/-- THE TIED CARD OF 'sparsetreelaw19.MultiChecks'. -/
def multiChecksCard : Claim7 := { stood := { row := multiChecksRow, standIns := [], harness := (true, "57909e87cc9e08ad0ec52c431872e2e9f70ec6788eb93c50515a2faee1eeed1a"), looks := true }, kinds := [], alts := [], laidByText := true, laidKinds := [.data, .data], laidTests := true, laidLooks := .later }
def MultiChecksCardSaid : Prop := Claim7.holds Tryz.pinned (.plain (OpenSpec.ofChange multiChecksSpec)) multiChecksCard

/-- THE TIED CARD OF 'sparsetreelaw19.MultiRoots'. -/
def multiRootsCard : Claim7 := { stood := { row := multiRootsRow, standIns := [], harness := (true, "57909e87cc9e08ad0ec52c431872e2e9f70ec6788eb93c50515a2faee1eeed1a"), looks := true }, kinds := [], alts := [], laidByText := true, laidKinds := [.data, .data], laidTests := true, laidLooks := .later }
def MultiRootsCardSaid : Prop := Claim7.holds Tryz.pinned (.plain (OpenSpec.ofChange multiRootsSpec)) multiRootsCard

/-- THE TIED CARD OF 'sparsetreelaw19.MultiEnds'. -/
def multiEndsCard : Claim7 := { stood := { row := multiEndsRow, standIns := [], harness := (true, "57909e87cc9e08ad0ec52c431872e2e9f70ec6788eb93c50515a2faee1eeed1a"), looks := true }, kinds := [], alts := [], laidByText := true, laidKinds := [.data, .data], laidTests := true, laidLooks := .later }
def MultiEndsCardSaid : Prop := Claim7.holds Tryz.pinned (.plain (OpenSpec.ofChange multiEndsSpec)) multiEndsCard

/-- THE TIED CARD OF 'sparsetreelaw19.MultiPreimages'. -/
def multiPreimagesCard : Claim7 := { stood := { row := multiPreimagesRow, standIns := [], harness := (true, "57909e87cc9e08ad0ec52c431872e2e9f70ec6788eb93c50515a2faee1eeed1a"), looks := true }, kinds := [], alts := [], laidByText := true, laidKinds := [.data, .data], laidTests := true, laidLooks := .later }
def MultiPreimagesCardSaid : Prop := Claim7.holds Tryz.pinned (.plain (OpenSpec.ofChange multiPreimagesSpec)) multiPreimagesCard

/-- THE TIED CARD OF 'sparsetreelaw19.MultiLeads'. -/
def multiLeadsCard : Claim7 := { stood := { row := multiLeadsRow, standIns := [], harness := (true, "57909e87cc9e08ad0ec52c431872e2e9f70ec6788eb93c50515a2faee1eeed1a"), looks := true }, kinds := [], alts := [], laidByText := true, laidKinds := [.data, .data], laidTests := true, laidLooks := .later }
def MultiLeadsCardSaid : Prop := Claim7.holds Tryz.pinned (.plain (OpenSpec.ofChange multiLeadsSpec)) multiLeadsCard

/-- THE SECOND FORM's CARD OF 'sparsetreelaw19.MultiProves'. -/
def multiProvesUptoCard : Claim7 := { stood := { row := multiProvesUptoRow, standIns := [], harness := (true, "57909e87cc9e08ad0ec52c431872e2e9f70ec6788eb93c50515a2faee1eeed1a"), looks := true }, kinds := [], alts := [], laidByText := true, laidKinds := [.data, .data], laidTests := true, laidLooks := .later }
def MultiProvesUptoCardSaid : Prop := Claim7.holds Tryz.pinned (.plain (OpenSpec.upto multiProvesSpec)) multiProvesUptoCard

/-- THE SECOND FORM's CARD OF 'sparsetreelaw19.MultiChecks'. -/
def multiChecksUptoCard : Claim7 := { stood := { row := multiChecksUptoRow, standIns := [], harness := (true, "57909e87cc9e08ad0ec52c431872e2e9f70ec6788eb93c50515a2faee1eeed1a"), looks := true }, kinds := [], alts := [], laidByText := true, laidKinds := [.data, .data], laidTests := true, laidLooks := .later }
def MultiChecksUptoCardSaid : Prop := Claim7.holds Tryz.pinned (.plain (OpenSpec.upto multiChecksSpec)) multiChecksUptoCard

/-- THE SECOND FORM's CARD OF 'sparsetreelaw19.MultiRoots'. -/
def multiRootsUptoCard : Claim7 := { stood := { row := multiRootsUptoRow, standIns := [], harness := (true, "57909e87cc9e08ad0ec52c431872e2e9f70ec6788eb93c50515a2faee1eeed1a"), looks := true }, kinds := [], alts := [], laidByText := true, laidKinds := [.data, .data], laidTests := true, laidLooks := .later }
def MultiRootsUptoCardSaid : Prop := Claim7.holds Tryz.pinned (.plain (OpenSpec.upto multiRootsSpec)) multiRootsUptoCard

/-- THE SECOND FORM's CARD OF 'sparsetreelaw19.MultiEnds'. -/
def multiEndsUptoCard : Claim7 := { stood := { row := multiEndsUptoRow, standIns := [], harness := (true, "57909e87cc9e08ad0ec52c431872e2e9f70ec6788eb93c50515a2faee1eeed1a"), looks := true }, kinds := [], alts := [], laidByText := true, laidKinds := [.data, .data], laidTests := true, laidLooks := .later }
def MultiEndsUptoCardSaid : Prop := Claim7.holds Tryz.pinned (.plain (OpenSpec.upto multiEndsSpec)) multiEndsUptoCard

/-- THE SECOND FORM's CARD OF 'sparsetreelaw19.MultiPreimages'. -/
def multiPreimagesUptoCard : Claim7 := { stood := { row := multiPreimagesUptoRow, standIns := [], harness := (true, "57909e87cc9e08ad0ec52c431872e2e9f70ec6788eb93c50515a2faee1eeed1a"), looks := true }, kinds := [], alts := [], laidByText := true, laidKinds := [.data, .data], laidTests := true, laidLooks := .later }
def MultiPreimagesUptoCardSaid : Prop := Claim7.holds Tryz.pinned (.plain (OpenSpec.upto multiPreimagesSpec)) multiPreimagesUptoCard

/-- THE SECOND FORM's CARD OF 'sparsetreelaw19.MultiLeads'. -/
def multiLeadsUptoCard : Claim7 := { stood := { row := multiLeadsUptoRow, standIns := [], harness := (true, "57909e87cc9e08ad0ec52c431872e2e9f70ec6788eb93c50515a2faee1eeed1a"), looks := true }, kinds := [], alts := [], laidByText := true, laidKinds := [.data, .data], laidTests := true, laidLooks := .later }
def MultiLeadsUptoCardSaid : Prop := Claim7.holds Tryz.pinned (.plain (OpenSpec.upto multiLeadsSpec)) multiLeadsUptoCard
end Rows
end Go.Proofs.YtmfbhohjpkmllaaGreatDoor
