/-
  DERIVED. GIVEN WITH THE SEED: THE CARDS: each row of YtjhpnlnghaljaaaDoorRows.lean that lists a variable, with what it lists TIED to the program's text (the seventh form; the later family's looks); each row that meets fmt, with fmt's text TOLD by the authors' own Lean function (tested against real Go, not proved from fmt's source: count such statements apart). THE CARD IS WHAT COUNTS. Prove the row's statement (the work); the ties are given (YtjhpnlnghaljaaaDoorTie.lean); close each card by the builder's one call (the guide's Derived/Test/ToyasCard.lean, 'card_holds'). Laid BY PROGRAM, IN A SANDBOX (cutbox-door.mjs). By AI agents, Wed Nov 11 2026. No macro, syntax, notation, axiom, sorry.
-/
import Derived.Test.YtjhpnlnghaljaaaDoorRows
import GoSem.ClaimSeven
namespace Go.Proofs.YtjhpnlnghaljaaaDoor
namespace Rows

/-- THE TIED CARD OF 'sparsetreelaw10.RemoveRemoves'. -/
def removeRemovesCard : Claim7 := { stood := { row := removeRemovesRow, standIns := [], harness := (true, "a1c6dcbc01d5e8ff9ceb06faf12cae0936003595c6c2ab3d1e8207f173adcab4"), looks := true }, kinds := [], alts := [], laidByText := true, laidKinds := [.data, .data], laidTests := true, laidLooks := .later }
def RemoveRemovesCardSaid : Prop := Claim7.holds Tryd.pinned (.plain (OpenSpec.ofChange removeRemovesSpec)) removeRemovesCard

/-- THE TIED CARD OF 'sparsetreelaw10.RemoveKeeps'. -/
def removeKeepsCard : Claim7 := { stood := { row := removeKeepsRow, standIns := [], harness := (true, "a1c6dcbc01d5e8ff9ceb06faf12cae0936003595c6c2ab3d1e8207f173adcab4"), looks := true }, kinds := [], alts := [], laidByText := true, laidKinds := [.data, .data], laidTests := true, laidLooks := .later }
def RemoveKeepsCardSaid : Prop := Claim7.holds Tryd.pinned (.plain (OpenSpec.ofChange removeKeepsSpec)) removeKeepsCard

/-- THE TIED CARD OF 'sparsetreelaw10.RemoveInverts'. -/
def removeInvertsCard : Claim7 := { stood := { row := removeInvertsRow, standIns := [], harness := (true, "a1c6dcbc01d5e8ff9ceb06faf12cae0936003595c6c2ab3d1e8207f173adcab4"), looks := true }, kinds := [], alts := [], laidByText := true, laidKinds := [.data, .data], laidTests := true, laidLooks := .later }
def RemoveInvertsCardSaid : Prop := Claim7.holds Tryd.pinned (.plain (OpenSpec.ofChange removeInvertsSpec)) removeInvertsCard

/-- THE TIED CARD OF 'sparsetreelaw10.RemoveAll'. -/
def removeAllCard : Claim7 := { stood := { row := removeAllRow, standIns := [], harness := (true, "a1c6dcbc01d5e8ff9ceb06faf12cae0936003595c6c2ab3d1e8207f173adcab4"), looks := true }, kinds := [], alts := [], laidByText := true, laidKinds := [.data, .data], laidTests := true, laidLooks := .later }
def RemoveAllCardSaid : Prop := Claim7.holds Tryd.pinned (.plain (OpenSpec.ofChange removeAllSpec)) removeAllCard

/-- THE TIED CARD OF 'sparsetreelaw10.RemoveAt'. -/
def removeAtCard : Claim7 := { stood := { row := removeAtRow, standIns := [], harness := (true, "a1c6dcbc01d5e8ff9ceb06faf12cae0936003595c6c2ab3d1e8207f173adcab4"), looks := true }, kinds := [], alts := [], laidByText := true, laidKinds := [.data, .data], laidTests := true, laidLooks := .later }
def RemoveAtCardSaid : Prop := Claim7.holds Tryd.pinned (.plain (OpenSpec.ofChange removeAtSpec)) removeAtCard

/-- THE SECOND FORM's CARD OF 'sparsetreelaw10.RemoveRemoves'. -/
def removeRemovesUptoCard : Claim7 := { stood := { row := removeRemovesUptoRow, standIns := [], harness := (true, "a1c6dcbc01d5e8ff9ceb06faf12cae0936003595c6c2ab3d1e8207f173adcab4"), looks := true }, kinds := [], alts := [], laidByText := true, laidKinds := [.data, .data], laidTests := true, laidLooks := .later }
def RemoveRemovesUptoCardSaid : Prop := Claim7.holds Tryd.pinned (.plain (OpenSpec.upto removeRemovesSpec)) removeRemovesUptoCard

/-- THE SECOND FORM's CARD OF 'sparsetreelaw10.RemoveKeeps'. -/
def removeKeepsUptoCard : Claim7 := { stood := { row := removeKeepsUptoRow, standIns := [], harness := (true, "a1c6dcbc01d5e8ff9ceb06faf12cae0936003595c6c2ab3d1e8207f173adcab4"), looks := true }, kinds := [], alts := [], laidByText := true, laidKinds := [.data, .data], laidTests := true, laidLooks := .later }
def RemoveKeepsUptoCardSaid : Prop := Claim7.holds Tryd.pinned (.plain (OpenSpec.upto removeKeepsSpec)) removeKeepsUptoCard

/-- THE SECOND FORM's CARD OF 'sparsetreelaw10.RemoveInverts'. -/
def removeInvertsUptoCard : Claim7 := { stood := { row := removeInvertsUptoRow, standIns := [], harness := (true, "a1c6dcbc01d5e8ff9ceb06faf12cae0936003595c6c2ab3d1e8207f173adcab4"), looks := true }, kinds := [], alts := [], laidByText := true, laidKinds := [.data, .data], laidTests := true, laidLooks := .later }
def RemoveInvertsUptoCardSaid : Prop := Claim7.holds Tryd.pinned (.plain (OpenSpec.upto removeInvertsSpec)) removeInvertsUptoCard

/-- THE SECOND FORM's CARD OF 'sparsetreelaw10.RemoveAll'. -/
def removeAllUptoCard : Claim7 := { stood := { row := removeAllUptoRow, standIns := [], harness := (true, "a1c6dcbc01d5e8ff9ceb06faf12cae0936003595c6c2ab3d1e8207f173adcab4"), looks := true }, kinds := [], alts := [], laidByText := true, laidKinds := [.data, .data], laidTests := true, laidLooks := .later }
def RemoveAllUptoCardSaid : Prop := Claim7.holds Tryd.pinned (.plain (OpenSpec.upto removeAllSpec)) removeAllUptoCard

/-- THE SECOND FORM's CARD OF 'sparsetreelaw10.RemoveAt'. -/
def removeAtUptoCard : Claim7 := { stood := { row := removeAtUptoRow, standIns := [], harness := (true, "a1c6dcbc01d5e8ff9ceb06faf12cae0936003595c6c2ab3d1e8207f173adcab4"), looks := true }, kinds := [], alts := [], laidByText := true, laidKinds := [.data, .data], laidTests := true, laidLooks := .later }
def RemoveAtUptoCardSaid : Prop := Claim7.holds Tryd.pinned (.plain (OpenSpec.upto removeAtSpec)) removeAtUptoCard
end Rows
end Go.Proofs.YtjhpnlnghaljaaaDoor
