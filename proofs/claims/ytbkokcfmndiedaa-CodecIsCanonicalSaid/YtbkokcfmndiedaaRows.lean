/-
  No cell of these rows narrows 'for every input' (looked for: loops, veiled, ifaces, maps, wideKeys, modest, calm, conditions, laid).
  DERIVED. THE GIVEN ROWS OF THIS SEAT. 4 by the template 'for every input the law returns true; each argument reads behind the call as it read before'; 0 by the template 'total and deterministic' (their statements: YtbkokcfmndiedaaTotals.lean).
  GIVEN WITH THE SEED: the statements are not yours to turn. If you find one false, say at which input.
  Laid BY PROGRAM, IN A SANDBOX (cutbox-rows.mjs): the forced cells as the released guide's own fill.sh prints them over the translation 7869b878efe778f4… (all of the seat's roots in one cut). By AI agents, Wed Nov 11 2026. No macro, syntax, notation, axiom, sorry.
-/
import Derived.Test.YtbkokcfmndiedaaChecked
import GoSem.Claim
import GoSem.ClaimJoined
import GoSem.ClaimMapViews
import Derived.JoinedTies
import Derived.KernelRfl
namespace Go.Proofs.Ytbkokcfmndiedaa
/- THE CELL 'sum', in the pinned program and in every row, IS THE sha256 OF THE DUMP (.gsa) THAT YtbkokcfmndiedaaProg.lean LOADS. Nothing in Lean hashes anything: it is a label: what it is worth is what the hold of that sum in a sandbox is worth. -/
noncomputable def Try.pinned : Pinned := { name := "ytbkokcfmndiedaa", sum := "7869b878efe778f41adac176fc581b290f406dbc3d9c702ed9c4e2cfb4d5ef67", checked := Try.checked }
namespace Rows
def none {H : Type} : Left H := { results := [], args := [] }

/-- 'sparsetreelaw17.CodecEncodes': WHATEVER THE INPUT: true; the input reads as it did. -/
def codecEncodesSpec : ChangeSpec := { name := "codecEncodes", fn := fun _ => fun
  | [d] => { results := [.lit (.bool true)], args := [d] }
  | _ => none }
def codecEncodesRow : OpenClaim := { program := "ytbkokcfmndiedaa", sum := "7869b878efe778f41adac176fc581b290f406dbc3d9c702ed9c4e2cfb4d5ef67", func := "sparsetree/sparsetreelaw17.CodecEncodes", spec := "codecEncodes", unfollowed := true, recurses := true, apart := false }
def CodecEncodesSaid : Prop := codecEncodesRow.holds Try.pinned (OpenSpec.ofChange codecEncodesSpec)

/-- ITS FALSE NEIGHBOUR: 'it returns false'. Refute it at one input. -/
def codecEncodesWrong : ChangeSpec := { name := "codecEncodes", fn := fun _ => fun
  | [d] => { results := [.lit (.bool false)], args := [d] }
  | _ => none }
def CodecEncodesWrongFalsely : Prop := codecEncodesRow.holds Try.pinned (OpenSpec.ofChange codecEncodesWrong)

/-- 'sparsetreelaw17.CodecDecodes': WHATEVER THE INPUT: true; the input reads as it did. -/
def codecDecodesSpec : ChangeSpec := { name := "codecDecodes", fn := fun _ => fun
  | [d] => { results := [.lit (.bool true)], args := [d] }
  | _ => none }
def codecDecodesRow : OpenClaim := { program := "ytbkokcfmndiedaa", sum := "7869b878efe778f41adac176fc581b290f406dbc3d9c702ed9c4e2cfb4d5ef67", func := "sparsetree/sparsetreelaw17.CodecDecodes", spec := "codecDecodes", unfollowed := true, recurses := true, apart := false }
def CodecDecodesSaid : Prop := codecDecodesRow.holds Try.pinned (OpenSpec.ofChange codecDecodesSpec)

/-- ITS FALSE NEIGHBOUR: 'it returns false'. Refute it at one input. -/
def codecDecodesWrong : ChangeSpec := { name := "codecDecodes", fn := fun _ => fun
  | [d] => { results := [.lit (.bool false)], args := [d] }
  | _ => none }
def CodecDecodesWrongFalsely : Prop := codecDecodesRow.holds Try.pinned (OpenSpec.ofChange codecDecodesWrong)

/-- 'sparsetreelaw17.CodecIsCanonical': WHATEVER THE INPUT: true; the input reads as it did. -/
def codecIsCanonicalSpec : ChangeSpec := { name := "codecIsCanonical", fn := fun _ => fun
  | [d] => { results := [.lit (.bool true)], args := [d] }
  | _ => none }
def codecIsCanonicalRow : OpenClaim := { program := "ytbkokcfmndiedaa", sum := "7869b878efe778f41adac176fc581b290f406dbc3d9c702ed9c4e2cfb4d5ef67", func := "sparsetree/sparsetreelaw17.CodecIsCanonical", spec := "codecIsCanonical", unfollowed := true, recurses := true, apart := false }
def CodecIsCanonicalSaid : Prop := codecIsCanonicalRow.holds Try.pinned (OpenSpec.ofChange codecIsCanonicalSpec)

/-- ITS FALSE NEIGHBOUR: 'it returns false'. Refute it at one input. -/
def codecIsCanonicalWrong : ChangeSpec := { name := "codecIsCanonical", fn := fun _ => fun
  | [d] => { results := [.lit (.bool false)], args := [d] }
  | _ => none }
def CodecIsCanonicalWrongFalsely : Prop := codecIsCanonicalRow.holds Try.pinned (OpenSpec.ofChange codecIsCanonicalWrong)

/-- 'sparsetreelaw17.CodecKinds': WHATEVER THE INPUT: true; the input reads as it did. -/
def codecKindsSpec : ChangeSpec := { name := "codecKinds", fn := fun _ => fun
  | [d] => { results := [.lit (.bool true)], args := [d] }
  | _ => none }
def codecKindsRow : OpenClaim := { program := "ytbkokcfmndiedaa", sum := "7869b878efe778f41adac176fc581b290f406dbc3d9c702ed9c4e2cfb4d5ef67", func := "sparsetree/sparsetreelaw17.CodecKinds", spec := "codecKinds", unfollowed := true, recurses := true, apart := false }
def CodecKindsSaid : Prop := codecKindsRow.holds Try.pinned (OpenSpec.ofChange codecKindsSpec)

/-- ITS FALSE NEIGHBOUR: 'it returns false'. Refute it at one input. -/
def codecKindsWrong : ChangeSpec := { name := "codecKinds", fn := fun _ => fun
  | [d] => { results := [.lit (.bool false)], args := [d] }
  | _ => none }
def CodecKindsWrongFalsely : Prop := codecKindsRow.holds Try.pinned (OpenSpec.ofChange codecKindsWrong)

/- THE SECOND FORM. 'bulk': how many values and letters a reading holds, each counted each time it is reached (what is shared counts as often as it is met; a slice's spare places count too). A statement '..UptoSaid' is the law's where the arguments, and the package variables that the reading takes, are together of bulk at most 1048576: NARROWER than '..Said'. Prove '..Said' where nothing that the law and all that it calls make is longer than what came in: it says more and counts as full. Else prove '..UptoSaid'. A law counts once. -/
mutual
def uptoBulk {H : Type} : DataW H → Nat
  | .lit (.string bytes) => bytes.length + 1
  | .lit _ => 1
  | .nil => 1
  | .ptr d => uptoBulk d + 1
  | .slice elems spare => uptoBulkAll elems + uptoBulkAll spare + 1
  | .agg parts => uptoBulkAll parts + 1
  | .iface _ d => uptoBulk d + 1
  | .map entries => uptoBulkEntries entries + 1
  | .held _ => 1
def uptoBulkAll {H : Type} : List (DataW H) → Nat
  | [] => 0
  | d :: r => uptoBulk d + uptoBulkAll r
def uptoBulkEntries {H : Type} : List (Lit × DataW H) → Nat
  | [] => 0
  | x :: r => uptoBulkEntry x + uptoBulkEntries r
def uptoBulkEntry {H : Type} : Lit × DataW H → Nat
  | (.string bytes, d) => bytes.length + uptoBulk d + 1
  | (_, d) => uptoBulk d + 1
 end
def uptoSmall : (H : Type) → List (DataW H) → Bool := fun _ ds => decide (uptoBulkAll ds ≤ 1048576)
def OpenSpec.upto (s : _root_.Go.ChangeSpec) : _root_.Go.OpenSpec := { _root_.Go.OpenSpec.ofChange s with cond := some uptoSmall }

/-- 'sparsetreelaw17.CodecEncodes', WHERE WHAT IT READS IS OF BULK AT MOST 1048576: true; the input reads as it did. -/
def codecEncodesUptoRow : OpenClaim := { program := "ytbkokcfmndiedaa", sum := "7869b878efe778f41adac176fc581b290f406dbc3d9c702ed9c4e2cfb4d5ef67", func := "sparsetree/sparsetreelaw17.CodecEncodes", spec := "codecEncodes", unfollowed := true, recurses := true, apart := false, narrowed := true }
def CodecEncodesUptoSaid : Prop := codecEncodesUptoRow.holds Try.pinned (OpenSpec.upto codecEncodesSpec)

/-- 'sparsetreelaw17.CodecDecodes', WHERE WHAT IT READS IS OF BULK AT MOST 1048576: true; the input reads as it did. -/
def codecDecodesUptoRow : OpenClaim := { program := "ytbkokcfmndiedaa", sum := "7869b878efe778f41adac176fc581b290f406dbc3d9c702ed9c4e2cfb4d5ef67", func := "sparsetree/sparsetreelaw17.CodecDecodes", spec := "codecDecodes", unfollowed := true, recurses := true, apart := false, narrowed := true }
def CodecDecodesUptoSaid : Prop := codecDecodesUptoRow.holds Try.pinned (OpenSpec.upto codecDecodesSpec)

/-- 'sparsetreelaw17.CodecIsCanonical', WHERE WHAT IT READS IS OF BULK AT MOST 1048576: true; the input reads as it did. -/
def codecIsCanonicalUptoRow : OpenClaim := { program := "ytbkokcfmndiedaa", sum := "7869b878efe778f41adac176fc581b290f406dbc3d9c702ed9c4e2cfb4d5ef67", func := "sparsetree/sparsetreelaw17.CodecIsCanonical", spec := "codecIsCanonical", unfollowed := true, recurses := true, apart := false, narrowed := true }
def CodecIsCanonicalUptoSaid : Prop := codecIsCanonicalUptoRow.holds Try.pinned (OpenSpec.upto codecIsCanonicalSpec)

/-- 'sparsetreelaw17.CodecKinds', WHERE WHAT IT READS IS OF BULK AT MOST 1048576: true; the input reads as it did. -/
def codecKindsUptoRow : OpenClaim := { program := "ytbkokcfmndiedaa", sum := "7869b878efe778f41adac176fc581b290f406dbc3d9c702ed9c4e2cfb4d5ef67", func := "sparsetree/sparsetreelaw17.CodecKinds", spec := "codecKinds", unfollowed := true, recurses := true, apart := false, narrowed := true }
def CodecKindsUptoSaid : Prop := codecKindsUptoRow.holds Try.pinned (OpenSpec.upto codecKindsSpec)

end Rows
end Go.Proofs.Ytbkokcfmndiedaa
