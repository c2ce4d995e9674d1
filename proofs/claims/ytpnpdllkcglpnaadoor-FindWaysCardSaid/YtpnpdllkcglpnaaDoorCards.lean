/-
  DERIVED. GIVEN WITH THE SEED: THE CARDS: each row of YtpnpdllkcglpnaaDoorRows.lean that lists a variable, with what it lists TIED to the program's text (the seventh form; the later family's looks); each row that meets fmt, with fmt's text TOLD by the authors' own Lean function (tested against real Go, not proved from fmt's source: count such statements apart). THE CARD IS WHAT COUNTS. Prove the row's statement (the work); the ties are given (YtpnpdllkcglpnaaDoorTie.lean); close each card by the builder's one call (the guide's Derived/Test/ToyasCard.lean, 'card_holds'). Laid BY PROGRAM, IN A SANDBOX (cutbox-door.mjs). By AI agents, Wed Nov 11 2026. No macro, syntax, notation, axiom, sorry.
-/
import Derived.Test.YtpnpdllkcglpnaaDoorRows
import GoSem.ClaimSeven
namespace Go.Proofs.YtpnpdllkcglpnaaDoor
namespace Rows

/-- THE TIED CARD OF 'sparsetreelaw08.FindLocates'. -/
def findLocatesCard : Claim7 := { stood := { row := findLocatesRow, standIns := [], harness := (true, "0df3e4c9c7c05b934abf4c9bf421c1d679154cfb8392c7f396d93900e3760317"), looks := true }, kinds := [], alts := [], laidByText := true, laidKinds := [.data, .data], laidTests := true, laidLooks := .later }
def FindLocatesCardSaid : Prop := Claim7.holds Tryd.pinned (.plain (OpenSpec.ofChange findLocatesSpec)) findLocatesCard

/-- THE TIED CARD OF 'sparsetreelaw08.FindGets'. -/
def findGetsCard : Claim7 := { stood := { row := findGetsRow, standIns := [], harness := (true, "0df3e4c9c7c05b934abf4c9bf421c1d679154cfb8392c7f396d93900e3760317"), looks := true }, kinds := [], alts := [], laidByText := true, laidKinds := [.data, .data], laidTests := true, laidLooks := .later }
def FindGetsCardSaid : Prop := Claim7.holds Tryd.pinned (.plain (OpenSpec.ofChange findGetsSpec)) findGetsCard

/-- THE TIED CARD OF 'sparsetreelaw08.FindSiblings'. -/
def findSiblingsCard : Claim7 := { stood := { row := findSiblingsRow, standIns := [], harness := (true, "0df3e4c9c7c05b934abf4c9bf421c1d679154cfb8392c7f396d93900e3760317"), looks := true }, kinds := [], alts := [], laidByText := true, laidKinds := [.data, .data], laidTests := true, laidLooks := .later }
def FindSiblingsCardSaid : Prop := Claim7.holds Tryd.pinned (.plain (OpenSpec.ofChange findSiblingsSpec)) findSiblingsCard

/-- THE TIED CARD OF 'sparsetreelaw08.FindWays'. -/
def findWaysCard : Claim7 := { stood := { row := findWaysRow, standIns := [], harness := (true, "0df3e4c9c7c05b934abf4c9bf421c1d679154cfb8392c7f396d93900e3760317"), looks := true }, kinds := [], alts := [], laidByText := true, laidKinds := [.data, .data], laidTests := true, laidLooks := .later }
def FindWaysCardSaid : Prop := Claim7.holds Tryd.pinned (.plain (OpenSpec.ofChange findWaysSpec)) findWaysCard

/-- THE TIED CARD OF 'sparsetreelaw08.FindUnder'. -/
def findUnderCard : Claim7 := { stood := { row := findUnderRow, standIns := [], harness := (true, "0df3e4c9c7c05b934abf4c9bf421c1d679154cfb8392c7f396d93900e3760317"), looks := true }, kinds := [], alts := [], laidByText := true, laidKinds := [.data, .data], laidTests := true, laidLooks := .later }
def FindUnderCardSaid : Prop := Claim7.holds Tryd.pinned (.plain (OpenSpec.ofChange findUnderSpec)) findUnderCard

/-- THE TIED CARD OF 'sparsetreelaw08.FindCopies'. -/
def findCopiesCard : Claim7 := { stood := { row := findCopiesRow, standIns := [], harness := (true, "0df3e4c9c7c05b934abf4c9bf421c1d679154cfb8392c7f396d93900e3760317"), looks := true }, kinds := [], alts := [], laidByText := true, laidKinds := [.data, .data], laidTests := true, laidLooks := .later }
def FindCopiesCardSaid : Prop := Claim7.holds Tryd.pinned (.plain (OpenSpec.ofChange findCopiesSpec)) findCopiesCard

/-- THE SECOND FORM's CARD OF 'sparsetreelaw08.FindLocates'. -/
def findLocatesUptoCard : Claim7 := { stood := { row := findLocatesUptoRow, standIns := [], harness := (true, "0df3e4c9c7c05b934abf4c9bf421c1d679154cfb8392c7f396d93900e3760317"), looks := true }, kinds := [], alts := [], laidByText := true, laidKinds := [.data, .data], laidTests := true, laidLooks := .later }
def FindLocatesUptoCardSaid : Prop := Claim7.holds Tryd.pinned (.plain (OpenSpec.upto findLocatesSpec)) findLocatesUptoCard

/-- THE SECOND FORM's CARD OF 'sparsetreelaw08.FindGets'. -/
def findGetsUptoCard : Claim7 := { stood := { row := findGetsUptoRow, standIns := [], harness := (true, "0df3e4c9c7c05b934abf4c9bf421c1d679154cfb8392c7f396d93900e3760317"), looks := true }, kinds := [], alts := [], laidByText := true, laidKinds := [.data, .data], laidTests := true, laidLooks := .later }
def FindGetsUptoCardSaid : Prop := Claim7.holds Tryd.pinned (.plain (OpenSpec.upto findGetsSpec)) findGetsUptoCard

/-- THE SECOND FORM's CARD OF 'sparsetreelaw08.FindSiblings'. -/
def findSiblingsUptoCard : Claim7 := { stood := { row := findSiblingsUptoRow, standIns := [], harness := (true, "0df3e4c9c7c05b934abf4c9bf421c1d679154cfb8392c7f396d93900e3760317"), looks := true }, kinds := [], alts := [], laidByText := true, laidKinds := [.data, .data], laidTests := true, laidLooks := .later }
def FindSiblingsUptoCardSaid : Prop := Claim7.holds Tryd.pinned (.plain (OpenSpec.upto findSiblingsSpec)) findSiblingsUptoCard

/-- THE SECOND FORM's CARD OF 'sparsetreelaw08.FindWays'. -/
def findWaysUptoCard : Claim7 := { stood := { row := findWaysUptoRow, standIns := [], harness := (true, "0df3e4c9c7c05b934abf4c9bf421c1d679154cfb8392c7f396d93900e3760317"), looks := true }, kinds := [], alts := [], laidByText := true, laidKinds := [.data, .data], laidTests := true, laidLooks := .later }
def FindWaysUptoCardSaid : Prop := Claim7.holds Tryd.pinned (.plain (OpenSpec.upto findWaysSpec)) findWaysUptoCard

/-- THE SECOND FORM's CARD OF 'sparsetreelaw08.FindUnder'. -/
def findUnderUptoCard : Claim7 := { stood := { row := findUnderUptoRow, standIns := [], harness := (true, "0df3e4c9c7c05b934abf4c9bf421c1d679154cfb8392c7f396d93900e3760317"), looks := true }, kinds := [], alts := [], laidByText := true, laidKinds := [.data, .data], laidTests := true, laidLooks := .later }
def FindUnderUptoCardSaid : Prop := Claim7.holds Tryd.pinned (.plain (OpenSpec.upto findUnderSpec)) findUnderUptoCard

/-- THE SECOND FORM's CARD OF 'sparsetreelaw08.FindCopies'. -/
def findCopiesUptoCard : Claim7 := { stood := { row := findCopiesUptoRow, standIns := [], harness := (true, "0df3e4c9c7c05b934abf4c9bf421c1d679154cfb8392c7f396d93900e3760317"), looks := true }, kinds := [], alts := [], laidByText := true, laidKinds := [.data, .data], laidTests := true, laidLooks := .later }
def FindCopiesUptoCardSaid : Prop := Claim7.holds Tryd.pinned (.plain (OpenSpec.upto findCopiesSpec)) findCopiesUptoCard
end Rows
end Go.Proofs.YtpnpdllkcglpnaaDoor
