/-
  DERIVED. GIVEN WITH THE SEED: THE CARDS: each row of YtmgablpnggoabaaDoorRows.lean that lists a variable, with what it lists TIED to the program's text (the seventh form; the later family's looks); each row that meets fmt, with fmt's text TOLD by the authors' own Lean function (tested against real Go, not proved from fmt's source: count such statements apart). THE CARD IS WHAT COUNTS. Prove the row's statement (the work); the ties are given (YtmgablpnggoabaaDoorTie.lean); close each card by the builder's one call (the guide's Derived/Test/ToyasCard.lean, 'card_holds'). Laid BY PROGRAM, IN A SANDBOX (cutbox-door.mjs). By AI agents, Wed Nov 11 2026. No macro, syntax, notation, axiom, sorry.
-/
import Derived.Test.YtmgablpnggoabaaDoorRows
import GoSem.ClaimSeven
namespace Go.Proofs.YtmgablpnggoabaaDoor
namespace Rows

/-- THE TIED CARD OF 'sparsetreelaw09.PutPuts'. -/
def putPutsCard : Claim7 := { stood := { row := putPutsRow, standIns := [], harness := (true, "dfeb6a1facbf488b0cd07de3b6630609719b41922a9a71c3fba398a1b54890f8"), looks := true }, kinds := [], alts := [], laidByText := true, laidKinds := [.data, .data], laidTests := true, laidLooks := .later }
def PutPutsCardSaid : Prop := Claim7.holds Tryd.pinned (.plain (OpenSpec.ofChange putPutsSpec)) putPutsCard

/-- THE TIED CARD OF 'sparsetreelaw09.PutAll'. -/
def putAllCard : Claim7 := { stood := { row := putAllRow, standIns := [], harness := (true, "dfeb6a1facbf488b0cd07de3b6630609719b41922a9a71c3fba398a1b54890f8"), looks := true }, kinds := [], alts := [], laidByText := true, laidKinds := [.data, .data], laidTests := true, laidLooks := .later }
def PutAllCardSaid : Prop := Claim7.holds Tryd.pinned (.plain (OpenSpec.ofChange putAllSpec)) putAllCard

/-- THE TIED CARD OF 'sparsetreelaw09.PutCommutes'. -/
def putCommutesCard : Claim7 := { stood := { row := putCommutesRow, standIns := [], harness := (true, "dfeb6a1facbf488b0cd07de3b6630609719b41922a9a71c3fba398a1b54890f8"), looks := true }, kinds := [], alts := [], laidByText := true, laidKinds := [.data, .data], laidTests := true, laidLooks := .later }
def PutCommutesCardSaid : Prop := Claim7.holds Tryd.pinned (.plain (OpenSpec.ofChange putCommutesSpec)) putCommutesCard

/-- THE TIED CARD OF 'sparsetreelaw09.PutAt'. -/
def putAtCard : Claim7 := { stood := { row := putAtRow, standIns := [], harness := (true, "dfeb6a1facbf488b0cd07de3b6630609719b41922a9a71c3fba398a1b54890f8"), looks := true }, kinds := [], alts := [], laidByText := true, laidKinds := [.data, .data], laidTests := true, laidLooks := .later }
def PutAtCardSaid : Prop := Claim7.holds Tryd.pinned (.plain (OpenSpec.ofChange putAtSpec)) putAtCard

/-- THE TIED CARD OF 'sparsetreelaw09.PutPairs'. -/
def putPairsCard : Claim7 := { stood := { row := putPairsRow, standIns := [], harness := (true, "dfeb6a1facbf488b0cd07de3b6630609719b41922a9a71c3fba398a1b54890f8"), looks := true }, kinds := [], alts := [], laidByText := true, laidKinds := [.data, .data], laidTests := true, laidLooks := .later }
def PutPairsCardSaid : Prop := Claim7.holds Tryd.pinned (.plain (OpenSpec.ofChange putPairsSpec)) putPairsCard

/-- THE TIED CARD OF 'sparsetreelaw09.PutShares'. -/
def putSharesCard : Claim7 := { stood := { row := putSharesRow, standIns := [], harness := (true, "dfeb6a1facbf488b0cd07de3b6630609719b41922a9a71c3fba398a1b54890f8"), looks := true }, kinds := [], alts := [], laidByText := true, laidKinds := [.data, .data], laidTests := true, laidLooks := .later }
def PutSharesCardSaid : Prop := Claim7.holds Tryd.pinned (.plain (OpenSpec.ofChange putSharesSpec)) putSharesCard

/-- THE SECOND FORM's CARD OF 'sparsetreelaw09.PutPuts'. -/
def putPutsUptoCard : Claim7 := { stood := { row := putPutsUptoRow, standIns := [], harness := (true, "dfeb6a1facbf488b0cd07de3b6630609719b41922a9a71c3fba398a1b54890f8"), looks := true }, kinds := [], alts := [], laidByText := true, laidKinds := [.data, .data], laidTests := true, laidLooks := .later }
def PutPutsUptoCardSaid : Prop := Claim7.holds Tryd.pinned (.plain (OpenSpec.upto putPutsSpec)) putPutsUptoCard

/-- THE SECOND FORM's CARD OF 'sparsetreelaw09.PutAll'. -/
def putAllUptoCard : Claim7 := { stood := { row := putAllUptoRow, standIns := [], harness := (true, "dfeb6a1facbf488b0cd07de3b6630609719b41922a9a71c3fba398a1b54890f8"), looks := true }, kinds := [], alts := [], laidByText := true, laidKinds := [.data, .data], laidTests := true, laidLooks := .later }
def PutAllUptoCardSaid : Prop := Claim7.holds Tryd.pinned (.plain (OpenSpec.upto putAllSpec)) putAllUptoCard

/-- THE SECOND FORM's CARD OF 'sparsetreelaw09.PutCommutes'. -/
def putCommutesUptoCard : Claim7 := { stood := { row := putCommutesUptoRow, standIns := [], harness := (true, "dfeb6a1facbf488b0cd07de3b6630609719b41922a9a71c3fba398a1b54890f8"), looks := true }, kinds := [], alts := [], laidByText := true, laidKinds := [.data, .data], laidTests := true, laidLooks := .later }
def PutCommutesUptoCardSaid : Prop := Claim7.holds Tryd.pinned (.plain (OpenSpec.upto putCommutesSpec)) putCommutesUptoCard

/-- THE SECOND FORM's CARD OF 'sparsetreelaw09.PutAt'. -/
def putAtUptoCard : Claim7 := { stood := { row := putAtUptoRow, standIns := [], harness := (true, "dfeb6a1facbf488b0cd07de3b6630609719b41922a9a71c3fba398a1b54890f8"), looks := true }, kinds := [], alts := [], laidByText := true, laidKinds := [.data, .data], laidTests := true, laidLooks := .later }
def PutAtUptoCardSaid : Prop := Claim7.holds Tryd.pinned (.plain (OpenSpec.upto putAtSpec)) putAtUptoCard

/-- THE SECOND FORM's CARD OF 'sparsetreelaw09.PutPairs'. -/
def putPairsUptoCard : Claim7 := { stood := { row := putPairsUptoRow, standIns := [], harness := (true, "dfeb6a1facbf488b0cd07de3b6630609719b41922a9a71c3fba398a1b54890f8"), looks := true }, kinds := [], alts := [], laidByText := true, laidKinds := [.data, .data], laidTests := true, laidLooks := .later }
def PutPairsUptoCardSaid : Prop := Claim7.holds Tryd.pinned (.plain (OpenSpec.upto putPairsSpec)) putPairsUptoCard

/-- THE SECOND FORM's CARD OF 'sparsetreelaw09.PutShares'. -/
def putSharesUptoCard : Claim7 := { stood := { row := putSharesUptoRow, standIns := [], harness := (true, "dfeb6a1facbf488b0cd07de3b6630609719b41922a9a71c3fba398a1b54890f8"), looks := true }, kinds := [], alts := [], laidByText := true, laidKinds := [.data, .data], laidTests := true, laidLooks := .later }
def PutSharesUptoCardSaid : Prop := Claim7.holds Tryd.pinned (.plain (OpenSpec.upto putSharesSpec)) putSharesUptoCard
end Rows
end Go.Proofs.YtmgablpnggoabaaDoor
