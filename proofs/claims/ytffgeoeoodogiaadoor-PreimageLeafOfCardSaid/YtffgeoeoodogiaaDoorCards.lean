/-
  DERIVED. GIVEN WITH THE SEED: THE CARDS: each row of YtffgeoeoodogiaaDoorRows.lean that lists a variable, with what it lists TIED to the program's text (the seventh form; the later family's looks); each row that meets fmt, with fmt's text TOLD by the authors' own Lean function (tested against real Go, not proved from fmt's source: count such statements apart). THE CARD IS WHAT COUNTS. Prove the row's statement (the work); the ties are given (YtffgeoeoodogiaaDoorTie.lean); close each card by the builder's one call (the guide's Derived/Test/ToyasCard.lean, 'card_holds'). Laid BY PROGRAM, IN A SANDBOX (cutbox-door.mjs). By AI agents, Wed Nov 11 2026. No macro, syntax, notation, axiom, sorry.
-/
import Derived.Test.YtffgeoeoodogiaaDoorRows
import GoSem.ClaimSeven
namespace Go.Proofs.YtffgeoeoodogiaaDoor
namespace Rows

/-- THE TIED CARD OF 'sparsetreelaw06.PreimageLeafOf'. -/
def preimageLeafOfCard : Claim7 := { stood := { row := preimageLeafOfRow, standIns := [], harness := (true, "648581428bb3439c91feedc0b2748e6ff31d0dfcd93eb32f7f8a32097ce4f3fa"), looks := false }, kinds := [], alts := [], laidByText := true, laidKinds := [.data, .data], laidTests := true, laidLooks := .later }
def PreimageLeafOfCardSaid : Prop := Claim7.holds Tryd.pinned (.plain (OpenSpec.ofChange preimageLeafOfSpec)) preimageLeafOfCard

/-- THE SECOND FORM's CARD OF 'sparsetreelaw06.PreimageLeafOf'. -/
def preimageLeafOfUptoCard : Claim7 := { stood := { row := preimageLeafOfUptoRow, standIns := [], harness := (true, "648581428bb3439c91feedc0b2748e6ff31d0dfcd93eb32f7f8a32097ce4f3fa"), looks := false }, kinds := [], alts := [], laidByText := true, laidKinds := [.data, .data], laidTests := true, laidLooks := .later }
def PreimageLeafOfUptoCardSaid : Prop := Claim7.holds Tryd.pinned (.plain (OpenSpec.upto preimageLeafOfSpec)) preimageLeafOfUptoCard
end Rows
end Go.Proofs.YtffgeoeoodogiaaDoor
