/-
  DERIVED. GIVEN WITH THE SEED: THE CARDS: each row of YtdoanibgcogejaaDoorRows.lean that lists a variable, with what it lists TIED to the program's text (the seventh form; the later family's looks); each row that meets fmt, with fmt's text TOLD by the authors' own Lean function (tested against real Go, not proved from fmt's source: count such statements apart). THE CARD IS WHAT COUNTS. Prove the row's statement (the work); the ties are given (YtdoanibgcogejaaDoorTie.lean); close each card by the builder's one call (the guide's Derived/Test/ToyasCard.lean, 'card_holds'). Laid BY PROGRAM, IN A SANDBOX (cutbox-door.mjs). By AI agents, Wed Nov 11 2026. No macro, syntax, notation, axiom, sorry.
-/
import Derived.Test.YtdoanibgcogejaaDoorRows
import GoSem.ClaimSeven
namespace Go.Proofs.YtdoanibgcogejaaDoor
namespace Rows

/-- THE TIED CARD OF 'sparsetreelaw07.NodeDigests'. -/
def nodeDigestsCard : Claim7 := { stood := { row := nodeDigestsRow, standIns := [], harness := (true, "ab731170d12007436d158f794c2df2178117a59508fba745752466f752c07e73"), looks := true }, kinds := [], alts := [], laidByText := true, laidKinds := [.data, .data], laidTests := true, laidLooks := .later }
def NodeDigestsCardSaid : Prop := Claim7.holds Tryd.pinned (.plain (OpenSpec.ofChange nodeDigestsSpec)) nodeDigestsCard

/-- THE TIED CARD OF 'sparsetreelaw07.NodeLeaves'. -/
def nodeLeavesCard : Claim7 := { stood := { row := nodeLeavesRow, standIns := [], harness := (true, "ab731170d12007436d158f794c2df2178117a59508fba745752466f752c07e73"), looks := true }, kinds := [], alts := [], laidByText := true, laidKinds := [.data, .data], laidTests := true, laidLooks := .later }
def NodeLeavesCardSaid : Prop := Claim7.holds Tryd.pinned (.plain (OpenSpec.ofChange nodeLeavesSpec)) nodeLeavesCard

/-- THE TIED CARD OF 'sparsetreelaw07.NodeCaches'. -/
def nodeCachesCard : Claim7 := { stood := { row := nodeCachesRow, standIns := [], harness := (true, "ab731170d12007436d158f794c2df2178117a59508fba745752466f752c07e73"), looks := true }, kinds := [], alts := [], laidByText := true, laidKinds := [.data, .data], laidTests := true, laidLooks := .later }
def NodeCachesCardSaid : Prop := Claim7.holds Tryd.pinned (.plain (OpenSpec.ofChange nodeCachesSpec)) nodeCachesCard

/-- THE TIED CARD OF 'sparsetreelaw07.NodeKeeps'. -/
def nodeKeepsCard : Claim7 := { stood := { row := nodeKeepsRow, standIns := [], harness := (true, "ab731170d12007436d158f794c2df2178117a59508fba745752466f752c07e73"), looks := true }, kinds := [], alts := [], laidByText := true, laidKinds := [.data, .data], laidTests := true, laidLooks := .later }
def NodeKeepsCardSaid : Prop := Claim7.holds Tryd.pinned (.plain (OpenSpec.ofChange nodeKeepsSpec)) nodeKeepsCard

/-- THE TIED CARD OF 'sparsetreelaw07.NodeNil'. -/
def nodeNilCard : Claim7 := { stood := { row := nodeNilRow, standIns := [], harness := (true, "ab731170d12007436d158f794c2df2178117a59508fba745752466f752c07e73"), looks := true }, kinds := [], alts := [], laidByText := true, laidKinds := [.data, .data], laidTests := true, laidLooks := .later }
def NodeNilCardSaid : Prop := Claim7.holds Tryd.pinned (.plain (OpenSpec.ofChange nodeNilSpec)) nodeNilCard

/-- THE SECOND FORM's CARD OF 'sparsetreelaw07.NodeDigests'. -/
def nodeDigestsUptoCard : Claim7 := { stood := { row := nodeDigestsUptoRow, standIns := [], harness := (true, "ab731170d12007436d158f794c2df2178117a59508fba745752466f752c07e73"), looks := true }, kinds := [], alts := [], laidByText := true, laidKinds := [.data, .data], laidTests := true, laidLooks := .later }
def NodeDigestsUptoCardSaid : Prop := Claim7.holds Tryd.pinned (.plain (OpenSpec.upto nodeDigestsSpec)) nodeDigestsUptoCard

/-- THE SECOND FORM's CARD OF 'sparsetreelaw07.NodeLeaves'. -/
def nodeLeavesUptoCard : Claim7 := { stood := { row := nodeLeavesUptoRow, standIns := [], harness := (true, "ab731170d12007436d158f794c2df2178117a59508fba745752466f752c07e73"), looks := true }, kinds := [], alts := [], laidByText := true, laidKinds := [.data, .data], laidTests := true, laidLooks := .later }
def NodeLeavesUptoCardSaid : Prop := Claim7.holds Tryd.pinned (.plain (OpenSpec.upto nodeLeavesSpec)) nodeLeavesUptoCard

/-- THE SECOND FORM's CARD OF 'sparsetreelaw07.NodeCaches'. -/
def nodeCachesUptoCard : Claim7 := { stood := { row := nodeCachesUptoRow, standIns := [], harness := (true, "ab731170d12007436d158f794c2df2178117a59508fba745752466f752c07e73"), looks := true }, kinds := [], alts := [], laidByText := true, laidKinds := [.data, .data], laidTests := true, laidLooks := .later }
def NodeCachesUptoCardSaid : Prop := Claim7.holds Tryd.pinned (.plain (OpenSpec.upto nodeCachesSpec)) nodeCachesUptoCard

/-- THE SECOND FORM's CARD OF 'sparsetreelaw07.NodeKeeps'. -/
def nodeKeepsUptoCard : Claim7 := { stood := { row := nodeKeepsUptoRow, standIns := [], harness := (true, "ab731170d12007436d158f794c2df2178117a59508fba745752466f752c07e73"), looks := true }, kinds := [], alts := [], laidByText := true, laidKinds := [.data, .data], laidTests := true, laidLooks := .later }
def NodeKeepsUptoCardSaid : Prop := Claim7.holds Tryd.pinned (.plain (OpenSpec.upto nodeKeepsSpec)) nodeKeepsUptoCard

/-- THE SECOND FORM's CARD OF 'sparsetreelaw07.NodeNil'. -/
def nodeNilUptoCard : Claim7 := { stood := { row := nodeNilUptoRow, standIns := [], harness := (true, "ab731170d12007436d158f794c2df2178117a59508fba745752466f752c07e73"), looks := true }, kinds := [], alts := [], laidByText := true, laidKinds := [.data, .data], laidTests := true, laidLooks := .later }
def NodeNilUptoCardSaid : Prop := Claim7.holds Tryd.pinned (.plain (OpenSpec.upto nodeNilSpec)) nodeNilUptoCard
end Rows
end Go.Proofs.YtdoanibgcogejaaDoor
