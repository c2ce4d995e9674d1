/-
  No cell of these rows narrows 'for every input' (looked for: loops, veiled, ifaces, maps, wideKeys, modest, calm, conditions, laid).
  DERIVED. THE GIVEN ROWS OF THIS SEAT. 6 by the template 'for every input the law returns true; each argument reads behind the call as it read before'; 0 by the template 'total and deterministic' (their statements: YtpdmkojclgkcnaaTotals.lean).
  GIVEN WITH THE SEED: the statements are not yours to turn. If you find one false, say at which input.
  Laid BY PROGRAM, IN A SANDBOX (cutbox-rows.mjs): the forced cells as the released guide's own fill.sh prints them over the translation 4e6c30655a44b389… (all of the seat's roots in one cut). By AI agents, Wed Nov 11 2026. No macro, syntax, notation, axiom, sorry.
-/
import Derived.Test.YtpdmkojclgkcnaaChecked
import GoSem.Claim
import GoSem.ClaimJoined
import GoSem.ClaimMapViews
import Derived.JoinedTies
import Derived.KernelRfl
namespace Go.Proofs.Ytpdmkojclgkcnaa
/- THE CELL 'sum', in the pinned program and in every row, IS THE sha256 OF THE DUMP (.gsa) THAT YtpdmkojclgkcnaaProg.lean LOADS. Nothing in Lean hashes anything: it is a label: what it is worth is what the hold of that sum in a sandbox is worth. -/
noncomputable def Try.pinned : Pinned := { name := "ytpdmkojclgkcnaa", sum := "4e6c30655a44b3892f392bce67c587c9835df0f89e9c2d9a18dd897781128fdd", checked := Try.checked }
namespace Rows
def none {H : Type} : Left H := { results := [], args := [] }

/-- 'sparsetreelaw14.BitmapOf': WHATEVER THE INPUT: true; the input reads as it did. -/
def bitmapOfSpec : ChangeSpec := { name := "bitmapOf", fn := fun _ => fun
  | [d] => { results := [.lit (.bool true)], args := [d] }
  | _ => none }
def bitmapOfRow : OpenClaim := { program := "ytpdmkojclgkcnaa", sum := "4e6c30655a44b3892f392bce67c587c9835df0f89e9c2d9a18dd897781128fdd", func := "sparsetree/sparsetreelaw14.BitmapOf", spec := "bitmapOf", unfollowed := true, recurses := true, apart := false }
def BitmapOfSaid : Prop := bitmapOfRow.holds Try.pinned (OpenSpec.ofChange bitmapOfSpec)

/-- ITS FALSE NEIGHBOUR: 'it returns false'. Refute it at one input. -/
def bitmapOfWrong : ChangeSpec := { name := "bitmapOf", fn := fun _ => fun
  | [d] => { results := [.lit (.bool false)], args := [d] }
  | _ => none }
def BitmapOfWrongFalsely : Prop := bitmapOfRow.holds Try.pinned (OpenSpec.ofChange bitmapOfWrong)

/-- 'sparsetreelaw14.BitmapHas': WHATEVER THE INPUT: true; the input reads as it did. -/
def bitmapHasSpec : ChangeSpec := { name := "bitmapHas", fn := fun _ => fun
  | [d1, d2] => { results := [.lit (.bool true)], args := [d1, d2] }
  | _ => none }
def bitmapHasRow : OpenClaim := { program := "ytpdmkojclgkcnaa", sum := "4e6c30655a44b3892f392bce67c587c9835df0f89e9c2d9a18dd897781128fdd", func := "sparsetree/sparsetreelaw14.BitmapHas", spec := "bitmapHas", unfollowed := true, recurses := true, apart := false }
def BitmapHasSaid : Prop := bitmapHasRow.holds Try.pinned (OpenSpec.ofChange bitmapHasSpec)

/-- ITS FALSE NEIGHBOUR: 'it returns false'. Refute it at one input. -/
def bitmapHasWrong : ChangeSpec := { name := "bitmapHas", fn := fun _ => fun
  | [d1, d2] => { results := [.lit (.bool false)], args := [d1, d2] }
  | _ => none }
def BitmapHasWrongFalsely : Prop := bitmapHasRow.holds Try.pinned (OpenSpec.ofChange bitmapHasWrong)

/-- 'sparsetreelaw14.BitmapChanges': WHATEVER THE INPUT: true; the input reads as it did. -/
def bitmapChangesSpec : ChangeSpec := { name := "bitmapChanges", fn := fun _ => fun
  | [d1, d2, d3] => { results := [.lit (.bool true)], args := [d1, d2, d3] }
  | _ => none }
def bitmapChangesRow : OpenClaim := { program := "ytpdmkojclgkcnaa", sum := "4e6c30655a44b3892f392bce67c587c9835df0f89e9c2d9a18dd897781128fdd", func := "sparsetree/sparsetreelaw14.BitmapChanges", spec := "bitmapChanges", unfollowed := true, recurses := true, apart := false }
def BitmapChangesSaid : Prop := bitmapChangesRow.holds Try.pinned (OpenSpec.ofChange bitmapChangesSpec)

/-- ITS FALSE NEIGHBOUR: 'it returns false'. Refute it at one input. -/
def bitmapChangesWrong : ChangeSpec := { name := "bitmapChanges", fn := fun _ => fun
  | [d1, d2, d3] => { results := [.lit (.bool false)], args := [d1, d2, d3] }
  | _ => none }
def BitmapChangesWrongFalsely : Prop := bitmapChangesRow.holds Try.pinned (OpenSpec.ofChange bitmapChangesWrong)

/-- 'sparsetreelaw14.BitmapLists': WHATEVER THE INPUT: true; the input reads as it did. -/
def bitmapListsSpec : ChangeSpec := { name := "bitmapLists", fn := fun _ => fun
  | [d] => { results := [.lit (.bool true)], args := [d] }
  | _ => none }
def bitmapListsRow : OpenClaim := { program := "ytpdmkojclgkcnaa", sum := "4e6c30655a44b3892f392bce67c587c9835df0f89e9c2d9a18dd897781128fdd", func := "sparsetree/sparsetreelaw14.BitmapLists", spec := "bitmapLists", unfollowed := true, recurses := true, apart := false }
def BitmapListsSaid : Prop := bitmapListsRow.holds Try.pinned (OpenSpec.ofChange bitmapListsSpec)

/-- ITS FALSE NEIGHBOUR: 'it returns false'. Refute it at one input. -/
def bitmapListsWrong : ChangeSpec := { name := "bitmapLists", fn := fun _ => fun
  | [d] => { results := [.lit (.bool false)], args := [d] }
  | _ => none }
def BitmapListsWrongFalsely : Prop := bitmapListsRow.holds Try.pinned (OpenSpec.ofChange bitmapListsWrong)

/-- 'sparsetreelaw14.BitmapUnites': WHATEVER THE INPUT: true; the input reads as it did. -/
def bitmapUnitesSpec : ChangeSpec := { name := "bitmapUnites", fn := fun _ => fun
  | [d1, d2, d3] => { results := [.lit (.bool true)], args := [d1, d2, d3] }
  | _ => none }
def bitmapUnitesRow : OpenClaim := { program := "ytpdmkojclgkcnaa", sum := "4e6c30655a44b3892f392bce67c587c9835df0f89e9c2d9a18dd897781128fdd", func := "sparsetree/sparsetreelaw14.BitmapUnites", spec := "bitmapUnites", unfollowed := true, recurses := true, apart := false }
def BitmapUnitesSaid : Prop := bitmapUnitesRow.holds Try.pinned (OpenSpec.ofChange bitmapUnitesSpec)

/-- ITS FALSE NEIGHBOUR: 'it returns false'. Refute it at one input. -/
def bitmapUnitesWrong : ChangeSpec := { name := "bitmapUnites", fn := fun _ => fun
  | [d1, d2, d3] => { results := [.lit (.bool false)], args := [d1, d2, d3] }
  | _ => none }
def BitmapUnitesWrongFalsely : Prop := bitmapUnitesRow.holds Try.pinned (OpenSpec.ofChange bitmapUnitesWrong)

/-- 'sparsetreelaw14.BitmapOrder': WHATEVER THE INPUT: true; the input reads as it did. -/
def bitmapOrderSpec : ChangeSpec := { name := "bitmapOrder", fn := fun _ => fun
  | [d] => { results := [.lit (.bool true)], args := [d] }
  | _ => none }
def bitmapOrderRow : OpenClaim := { program := "ytpdmkojclgkcnaa", sum := "4e6c30655a44b3892f392bce67c587c9835df0f89e9c2d9a18dd897781128fdd", func := "sparsetree/sparsetreelaw14.BitmapOrder", spec := "bitmapOrder", unfollowed := true, recurses := true, apart := false }
def BitmapOrderSaid : Prop := bitmapOrderRow.holds Try.pinned (OpenSpec.ofChange bitmapOrderSpec)

/-- ITS FALSE NEIGHBOUR: 'it returns false'. Refute it at one input. -/
def bitmapOrderWrong : ChangeSpec := { name := "bitmapOrder", fn := fun _ => fun
  | [d] => { results := [.lit (.bool false)], args := [d] }
  | _ => none }
def BitmapOrderWrongFalsely : Prop := bitmapOrderRow.holds Try.pinned (OpenSpec.ofChange bitmapOrderWrong)

/- THE SECOND FORM. 'bulk': how many values and letters a reading holds, each counted each time it is reached (what is shared counts as often as it is met; a slice's spare places count too). A statement '..UptoSaid' is the law's where the arguments, and the package variables that the reading takes, are together of bulk at most 1048576: NARROWER than '..Said'. Prove '..Said' where nothing that the law and all that it calls make is longer than what came in: it says more and counts as full. Else prove '..UptoSaid'. A law counts once. -/
mutual
def uptoBulk {H : Type} : DataW H → Nat
  | .lit (.string bytes) => bytes.length + 1
  | .lit _ => 1
  | .nil => 1
  | .ptr d => uptoBulk d + 1
  | .slice elems spare => uptoBulkAll elems + uptoBulkAll spare + 1
  | .agg parts => uptoBulkAll parts + 1
  | .iface _ d => uptoBulk d + 1
  | .map entries => uptoBulkEntries entries + 1
  | .held _ => 1
def uptoBulkAll {H : Type} : List (DataW H) → Nat
  | [] => 0
  | d :: r => uptoBulk d + uptoBulkAll r
def uptoBulkEntries {H : Type} : List (Lit × DataW H) → Nat
  | [] => 0
  | x :: r => uptoBulkEntry x + uptoBulkEntries r
def uptoBulkEntry {H : Type} : Lit × DataW H → Nat
  | (.string bytes, d) => bytes.length + uptoBulk d + 1
  | (_, d) => uptoBulk d + 1
 end
def uptoSmall : (H : Type) → List (DataW H) → Bool := fun _ ds => decide (uptoBulkAll ds ≤ 1048576)
def OpenSpec.upto (s : _root_.Go.ChangeSpec) : _root_.Go.OpenSpec := { _root_.Go.OpenSpec.ofChange s with cond := some uptoSmall }

/-- 'sparsetreelaw14.BitmapOf', WHERE WHAT IT READS IS OF BULK AT MOST 1048576: true; the input reads as it did. -/
def bitmapOfUptoRow : OpenClaim := { program := "ytpdmkojclgkcnaa", sum := "4e6c30655a44b3892f392bce67c587c9835df0f89e9c2d9a18dd897781128fdd", func := "sparsetree/sparsetreelaw14.BitmapOf", spec := "bitmapOf", unfollowed := true, recurses := true, apart := false, narrowed := true }
def BitmapOfUptoSaid : Prop := bitmapOfUptoRow.holds Try.pinned (OpenSpec.upto bitmapOfSpec)

/-- 'sparsetreelaw14.BitmapHas', WHERE WHAT IT READS IS OF BULK AT MOST 1048576: true; the input reads as it did. -/
def bitmapHasUptoRow : OpenClaim := { program := "ytpdmkojclgkcnaa", sum := "4e6c30655a44b3892f392bce67c587c9835df0f89e9c2d9a18dd897781128fdd", func := "sparsetree/sparsetreelaw14.BitmapHas", spec := "bitmapHas", unfollowed := true, recurses := true, apart := false, narrowed := true }
def BitmapHasUptoSaid : Prop := bitmapHasUptoRow.holds Try.pinned (OpenSpec.upto bitmapHasSpec)

/-- 'sparsetreelaw14.BitmapChanges', WHERE WHAT IT READS IS OF BULK AT MOST 1048576: true; the input reads as it did. -/
def bitmapChangesUptoRow : OpenClaim := { program := "ytpdmkojclgkcnaa", sum := "4e6c30655a44b3892f392bce67c587c9835df0f89e9c2d9a18dd897781128fdd", func := "sparsetree/sparsetreelaw14.BitmapChanges", spec := "bitmapChanges", unfollowed := true, recurses := true, apart := false, narrowed := true }
def BitmapChangesUptoSaid : Prop := bitmapChangesUptoRow.holds Try.pinned (OpenSpec.upto bitmapChangesSpec)

/-- 'sparsetreelaw14.BitmapLists', WHERE WHAT IT READS IS OF BULK AT MOST 1048576: true; the input reads as it did. -/
def bitmapListsUptoRow : OpenClaim := { program := "ytpdmkojclgkcnaa", sum := "4e6c30655a44b3892f392bce67c587c9835df0f89e9c2d9a18dd897781128fdd", func := "sparsetree/sparsetreelaw14.BitmapLists", spec := "bitmapLists", unfollowed := true, recurses := true, apart := false, narrowed := true }
def BitmapListsUptoSaid : Prop := bitmapListsUptoRow.holds Try.pinned (OpenSpec.upto bitmapListsSpec)

/-- 'sparsetreelaw14.BitmapUnites', WHERE WHAT IT READS IS OF BULK AT MOST 1048576: true; the input reads as it did. -/
def bitmapUnitesUptoRow : OpenClaim := { program := "ytpdmkojclgkcnaa", sum := "4e6c30655a44b3892f392bce67c587c9835df0f89e9c2d9a18dd897781128fdd", func := "sparsetree/sparsetreelaw14.BitmapUnites", spec := "bitmapUnites", unfollowed := true, recurses := true, apart := false, narrowed := true }
def BitmapUnitesUptoSaid : Prop := bitmapUnitesUptoRow.holds Try.pinned (OpenSpec.upto bitmapUnitesSpec)

/-- 'sparsetreelaw14.BitmapOrder', WHERE WHAT IT READS IS OF BULK AT MOST 1048576: true; the input reads as it did. -/
def bitmapOrderUptoRow : OpenClaim := { program := "ytpdmkojclgkcnaa", sum := "4e6c30655a44b3892f392bce67c587c9835df0f89e9c2d9a18dd897781128fdd", func := "sparsetree/sparsetreelaw14.BitmapOrder", spec := "bitmapOrder", unfollowed := true, recurses := true, apart := false, narrowed := true }
def BitmapOrderUptoSaid : Prop := bitmapOrderUptoRow.holds Try.pinned (OpenSpec.upto bitmapOrderSpec)

end Rows
end Go.Proofs.Ytpdmkojclgkcnaa
