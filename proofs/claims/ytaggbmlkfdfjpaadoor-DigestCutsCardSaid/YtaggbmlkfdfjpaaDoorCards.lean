/-
  DERIVED. GIVEN WITH THE SEED: THE CARDS: each row of YtaggbmlkfdfjpaaDoorRows.lean that lists a variable, with what it lists TIED to the program's text (the seventh form; the later family's looks); each row that meets fmt, with fmt's text TOLD by the authors' own Lean function (tested against real Go, not proved from fmt's source: count such statements apart). THE CARD IS WHAT COUNTS. Prove the row's statement (the work); the ties are given (YtaggbmlkfdfjpaaDoorTie.lean); close each card by the builder's one call (the guide's Derived/Test/ToyasCard.lean, 'card_holds'). Laid BY PROGRAM, IN A SANDBOX (cutbox-door.mjs). By AI agents, Wed Nov 11 2026. No macro, syntax, notation, axiom, sorry.
-/
import Derived.Test.YtaggbmlkfdfjpaaDoorRows
import GoSem.ClaimSeven
namespace Go.Proofs.YtaggbmlkfdfjpaaDoor
namespace Rows

/-- THE TIED CARD OF 'sparsetreelaw05.DigestStarts'. -/
def digestStartsCard : Claim7 := { stood := { row := digestStartsRow, standIns := [], harness := (true, "0f3ea6604bf58673bd2edb64b45c20821aadc9b1018a039ffd85c8384ffb9afd"), looks := false }, kinds := [], alts := [], laidByText := true, laidKinds := [.data, .data], laidTests := true, laidLooks := .later }
def DigestStartsCardSaid : Prop := Claim7.holds Tryd.pinned (.plain (OpenSpec.ofChange digestStartsSpec)) digestStartsCard

/-- THE TIED CARD OF 'sparsetreelaw05.DigestCuts'. -/
def digestCutsCard : Claim7 := { stood := { row := digestCutsRow, standIns := [], harness := (true, "0f3ea6604bf58673bd2edb64b45c20821aadc9b1018a039ffd85c8384ffb9afd"), looks := false }, kinds := [], alts := [], laidByText := true, laidKinds := [.data, .data], laidTests := true, laidLooks := .later }
def DigestCutsCardSaid : Prop := Claim7.holds Tryd.pinned (.plain (OpenSpec.ofChange digestCutsSpec)) digestCutsCard

/-- THE TIED CARD OF 'sparsetreelaw05.DigestSums'. -/
def digestSumsCard : Claim7 := { stood := { row := digestSumsRow, standIns := [], harness := (true, "0f3ea6604bf58673bd2edb64b45c20821aadc9b1018a039ffd85c8384ffb9afd"), looks := false }, kinds := [], alts := [], laidByText := true, laidKinds := [.data, .data], laidTests := true, laidLooks := .later }
def DigestSumsCardSaid : Prop := Claim7.holds Tryd.pinned (.plain (OpenSpec.ofChange digestSumsSpec)) digestSumsCard

/-- THE TIED CARD OF 'sparsetreelaw05.DigestFull'. -/
def digestFullCard : Claim7 := { stood := { row := digestFullRow, standIns := [], harness := (true, "0f3ea6604bf58673bd2edb64b45c20821aadc9b1018a039ffd85c8384ffb9afd"), looks := false }, kinds := [], alts := [], laidByText := true, laidKinds := [.data, .data], laidTests := true, laidLooks := .later }
def DigestFullCardSaid : Prop := Claim7.holds Tryd.pinned (.plain (OpenSpec.ofChange digestFullSpec)) digestFullCard

/-- THE TIED CARD OF 'sparsetreelaw05.DigestForks'. -/
def digestForksCard : Claim7 := { stood := { row := digestForksRow, standIns := [], harness := (true, "0f3ea6604bf58673bd2edb64b45c20821aadc9b1018a039ffd85c8384ffb9afd"), looks := false }, kinds := [], alts := [], laidByText := true, laidKinds := [.data, .data], laidTests := true, laidLooks := .later }
def DigestForksCardSaid : Prop := Claim7.holds Tryd.pinned (.plain (OpenSpec.ofChange digestForksSpec)) digestForksCard

/-- THE TIED CARD OF 'sparsetreelaw05.DigestNil'. -/
def digestNilCard : Claim7 := { stood := { row := digestNilRow, standIns := [], harness := (true, "0f3ea6604bf58673bd2edb64b45c20821aadc9b1018a039ffd85c8384ffb9afd"), looks := false }, kinds := [], alts := [], laidByText := true, laidKinds := [.data, .data], laidTests := true, laidLooks := .later }
def DigestNilCardSaid : Prop := Claim7.holds Tryd.pinned (.plain (OpenSpec.ofChange digestNilSpec)) digestNilCard

/-- THE SECOND FORM's CARD OF 'sparsetreelaw05.DigestStarts'. -/
def digestStartsUptoCard : Claim7 := { stood := { row := digestStartsUptoRow, standIns := [], harness := (true, "0f3ea6604bf58673bd2edb64b45c20821aadc9b1018a039ffd85c8384ffb9afd"), looks := false }, kinds := [], alts := [], laidByText := true, laidKinds := [.data, .data], laidTests := true, laidLooks := .later }
def DigestStartsUptoCardSaid : Prop := Claim7.holds Tryd.pinned (.plain (OpenSpec.upto digestStartsSpec)) digestStartsUptoCard

/-- THE SECOND FORM's CARD OF 'sparsetreelaw05.DigestCuts'. -/
def digestCutsUptoCard : Claim7 := { stood := { row := digestCutsUptoRow, standIns := [], harness := (true, "0f3ea6604bf58673bd2edb64b45c20821aadc9b1018a039ffd85c8384ffb9afd"), looks := false }, kinds := [], alts := [], laidByText := true, laidKinds := [.data, .data], laidTests := true, laidLooks := .later }
def DigestCutsUptoCardSaid : Prop := Claim7.holds Tryd.pinned (.plain (OpenSpec.upto digestCutsSpec)) digestCutsUptoCard

/-- THE SECOND FORM's CARD OF 'sparsetreelaw05.DigestSums'. -/
def digestSumsUptoCard : Claim7 := { stood := { row := digestSumsUptoRow, standIns := [], harness := (true, "0f3ea6604bf58673bd2edb64b45c20821aadc9b1018a039ffd85c8384ffb9afd"), looks := false }, kinds := [], alts := [], laidByText := true, laidKinds := [.data, .data], laidTests := true, laidLooks := .later }
def DigestSumsUptoCardSaid : Prop := Claim7.holds Tryd.pinned (.plain (OpenSpec.upto digestSumsSpec)) digestSumsUptoCard

/-- THE SECOND FORM's CARD OF 'sparsetreelaw05.DigestFull'. -/
def digestFullUptoCard : Claim7 := { stood := { row := digestFullUptoRow, standIns := [], harness := (true, "0f3ea6604bf58673bd2edb64b45c20821aadc9b1018a039ffd85c8384ffb9afd"), looks := false }, kinds := [], alts := [], laidByText := true, laidKinds := [.data, .data], laidTests := true, laidLooks := .later }
def DigestFullUptoCardSaid : Prop := Claim7.holds Tryd.pinned (.plain (OpenSpec.upto digestFullSpec)) digestFullUptoCard

/-- THE SECOND FORM's CARD OF 'sparsetreelaw05.DigestForks'. -/
def digestForksUptoCard : Claim7 := { stood := { row := digestForksUptoRow, standIns := [], harness := (true, "0f3ea6604bf58673bd2edb64b45c20821aadc9b1018a039ffd85c8384ffb9afd"), looks := false }, kinds := [], alts := [], laidByText := true, laidKinds := [.data, .data], laidTests := true, laidLooks := .later }
def DigestForksUptoCardSaid : Prop := Claim7.holds Tryd.pinned (.plain (OpenSpec.upto digestForksSpec)) digestForksUptoCard

/-- THE SECOND FORM's CARD OF 'sparsetreelaw05.DigestNil'. -/
def digestNilUptoCard : Claim7 := { stood := { row := digestNilUptoRow, standIns := [], harness := (true, "0f3ea6604bf58673bd2edb64b45c20821aadc9b1018a039ffd85c8384ffb9afd"), looks := false }, kinds := [], alts := [], laidByText := true, laidKinds := [.data, .data], laidTests := true, laidLooks := .later }
def DigestNilUptoCardSaid : Prop := Claim7.holds Tryd.pinned (.plain (OpenSpec.upto digestNilSpec)) digestNilUptoCard
end Rows
end Go.Proofs.YtaggbmlkfdfjpaaDoor
