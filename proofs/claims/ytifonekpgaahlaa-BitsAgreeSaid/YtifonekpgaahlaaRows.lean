/-
  No cell of these rows narrows 'for every input' (looked for: loops, veiled, ifaces, maps, wideKeys, modest, calm, conditions, laid).
  DERIVED. THE GIVEN ROWS OF THIS SEAT. 6 by the template 'for every input the law returns true; each argument reads behind the call as it read before'; 0 by the template 'total and deterministic' (their statements: YtifonekpgaahlaaTotals.lean).
  GIVEN WITH THE SEED: the statements are not yours to turn. If you find one false, say at which input.
  Laid BY PROGRAM, IN A SANDBOX (cutbox-rows.mjs): the forced cells as the released guide's own fill.sh prints them over the translation 1afb39e2567624b2… (all of the seat's roots in one cut). By AI agents, Wed Nov 11 2026. No macro, syntax, notation, axiom, sorry.
-/
import Derived.Test.YtifonekpgaahlaaChecked
import GoSem.Claim
import GoSem.ClaimJoined
import GoSem.ClaimMapViews
import Derived.JoinedTies
import Derived.KernelRfl
namespace Go.Proofs.Ytifonekpgaahlaa
/- THE CELL 'sum', in the pinned program and in every row, IS THE sha256 OF THE DUMP (.gsa) THAT YtifonekpgaahlaaProg.lean LOADS. Nothing in Lean hashes anything: it is a label: what it is worth is what the hold of that sum in a sandbox is worth. -/
noncomputable def Try.pinned : Pinned := { name := "ytifonekpgaahlaa", sum := "1afb39e2567624b230867d50a416dd656b44c5c4c42fc4a108973132ea835148", checked := Try.checked }
namespace Rows
def none {H : Type} : Left H := { results := [], args := [] }

/-- 'sparsetreelaw01.BitsMatch': WHATEVER THE INPUT: true; the input reads as it did. -/
def bitsMatchSpec : ChangeSpec := { name := "bitsMatch", fn := fun _ => fun
  | [d1, d2] => { results := [.lit (.bool true)], args := [d1, d2] }
  | _ => none }
def bitsMatchRow : OpenClaim := { program := "ytifonekpgaahlaa", sum := "1afb39e2567624b230867d50a416dd656b44c5c4c42fc4a108973132ea835148", func := "sparsetree/sparsetreelaw01.BitsMatch", spec := "bitsMatch", apart := false }
def BitsMatchSaid : Prop := bitsMatchRow.holds Try.pinned (OpenSpec.ofChange bitsMatchSpec)

/-- ITS FALSE NEIGHBOUR: 'it returns false'. Refute it at one input. -/
def bitsMatchWrong : ChangeSpec := { name := "bitsMatch", fn := fun _ => fun
  | [d1, d2] => { results := [.lit (.bool false)], args := [d1, d2] }
  | _ => none }
def BitsMatchWrongFalsely : Prop := bitsMatchRow.holds Try.pinned (OpenSpec.ofChange bitsMatchWrong)

/-- 'sparsetreelaw01.BitsCommon': WHATEVER THE INPUT: true; the input reads as it did. -/
def bitsCommonSpec : ChangeSpec := { name := "bitsCommon", fn := fun _ => fun
  | [d1, d2] => { results := [.lit (.bool true)], args := [d1, d2] }
  | _ => none }
def bitsCommonRow : OpenClaim := { program := "ytifonekpgaahlaa", sum := "1afb39e2567624b230867d50a416dd656b44c5c4c42fc4a108973132ea835148", func := "sparsetree/sparsetreelaw01.BitsCommon", spec := "bitsCommon", apart := false }
def BitsCommonSaid : Prop := bitsCommonRow.holds Try.pinned (OpenSpec.ofChange bitsCommonSpec)

/-- ITS FALSE NEIGHBOUR: 'it returns false'. Refute it at one input. -/
def bitsCommonWrong : ChangeSpec := { name := "bitsCommon", fn := fun _ => fun
  | [d1, d2] => { results := [.lit (.bool false)], args := [d1, d2] }
  | _ => none }
def BitsCommonWrongFalsely : Prop := bitsCommonRow.holds Try.pinned (OpenSpec.ofChange bitsCommonWrong)

/-- 'sparsetreelaw01.BitsPrefix': WHATEVER THE INPUT: true; the input reads as it did. -/
def bitsPrefixSpec : ChangeSpec := { name := "bitsPrefix", fn := fun _ => fun
  | [d1, d2] => { results := [.lit (.bool true)], args := [d1, d2] }
  | _ => none }
def bitsPrefixRow : OpenClaim := { program := "ytifonekpgaahlaa", sum := "1afb39e2567624b230867d50a416dd656b44c5c4c42fc4a108973132ea835148", func := "sparsetree/sparsetreelaw01.BitsPrefix", spec := "bitsPrefix", apart := false }
def BitsPrefixSaid : Prop := bitsPrefixRow.holds Try.pinned (OpenSpec.ofChange bitsPrefixSpec)

/-- ITS FALSE NEIGHBOUR: 'it returns false'. Refute it at one input. -/
def bitsPrefixWrong : ChangeSpec := { name := "bitsPrefix", fn := fun _ => fun
  | [d1, d2] => { results := [.lit (.bool false)], args := [d1, d2] }
  | _ => none }
def BitsPrefixWrongFalsely : Prop := bitsPrefixRow.holds Try.pinned (OpenSpec.ofChange bitsPrefixWrong)

/-- 'sparsetreelaw01.BitsCompare': WHATEVER THE INPUT: true; the input reads as it did. -/
def bitsCompareSpec : ChangeSpec := { name := "bitsCompare", fn := fun _ => fun
  | [d1, d2] => { results := [.lit (.bool true)], args := [d1, d2] }
  | _ => none }
def bitsCompareRow : OpenClaim := { program := "ytifonekpgaahlaa", sum := "1afb39e2567624b230867d50a416dd656b44c5c4c42fc4a108973132ea835148", func := "sparsetree/sparsetreelaw01.BitsCompare", spec := "bitsCompare", apart := false }
def BitsCompareSaid : Prop := bitsCompareRow.holds Try.pinned (OpenSpec.ofChange bitsCompareSpec)

/-- ITS FALSE NEIGHBOUR: 'it returns false'. Refute it at one input. -/
def bitsCompareWrong : ChangeSpec := { name := "bitsCompare", fn := fun _ => fun
  | [d1, d2] => { results := [.lit (.bool false)], args := [d1, d2] }
  | _ => none }
def BitsCompareWrongFalsely : Prop := bitsCompareRow.holds Try.pinned (OpenSpec.ofChange bitsCompareWrong)

/-- 'sparsetreelaw01.BitsDirections': WHATEVER THE INPUT: true; the input reads as it did. -/
def bitsDirectionsSpec : ChangeSpec := { name := "bitsDirections", fn := fun _ => fun
  | [d1, d2] => { results := [.lit (.bool true)], args := [d1, d2] }
  | _ => none }
def bitsDirectionsRow : OpenClaim := { program := "ytifonekpgaahlaa", sum := "1afb39e2567624b230867d50a416dd656b44c5c4c42fc4a108973132ea835148", func := "sparsetree/sparsetreelaw01.BitsDirections", spec := "bitsDirections", apart := false }
def BitsDirectionsSaid : Prop := bitsDirectionsRow.holds Try.pinned (OpenSpec.ofChange bitsDirectionsSpec)

/-- ITS FALSE NEIGHBOUR: 'it returns false'. Refute it at one input. -/
def bitsDirectionsWrong : ChangeSpec := { name := "bitsDirections", fn := fun _ => fun
  | [d1, d2] => { results := [.lit (.bool false)], args := [d1, d2] }
  | _ => none }
def BitsDirectionsWrongFalsely : Prop := bitsDirectionsRow.holds Try.pinned (OpenSpec.ofChange bitsDirectionsWrong)

/-- 'sparsetreelaw01.BitsAgree': WHATEVER THE INPUT: true; the input reads as it did. -/
def bitsAgreeSpec : ChangeSpec := { name := "bitsAgree", fn := fun _ => fun
  | [d1, d2, d3] => { results := [.lit (.bool true)], args := [d1, d2, d3] }
  | _ => none }
def bitsAgreeRow : OpenClaim := { program := "ytifonekpgaahlaa", sum := "1afb39e2567624b230867d50a416dd656b44c5c4c42fc4a108973132ea835148", func := "sparsetree/sparsetreelaw01.BitsAgree", spec := "bitsAgree", apart := false }
def BitsAgreeSaid : Prop := bitsAgreeRow.holds Try.pinned (OpenSpec.ofChange bitsAgreeSpec)

/-- ITS FALSE NEIGHBOUR: 'it returns false'. Refute it at one input. -/
def bitsAgreeWrong : ChangeSpec := { name := "bitsAgree", fn := fun _ => fun
  | [d1, d2, d3] => { results := [.lit (.bool false)], args := [d1, d2, d3] }
  | _ => none }
def BitsAgreeWrongFalsely : Prop := bitsAgreeRow.holds Try.pinned (OpenSpec.ofChange bitsAgreeWrong)

/- THE SECOND FORM. 'bulk': how many values and letters a reading holds, each counted each time it is reached (what is shared counts as often as it is met; a slice's spare places count too). A statement '..UptoSaid' is the law's where the arguments, and the package variables that the reading takes, are together of bulk at most 1048576: NARROWER than '..Said'. Prove '..Said' where nothing that the law and all that it calls make is longer than what came in: it says more and counts as full. Else prove '..UptoSaid'. A law counts once. -/
mutual
def uptoBulk {H : Type} : DataW H → Nat
  | .lit (.string bytes) => bytes.length + 1
  | .lit _ => 1
  | .nil => 1
  | .ptr d => uptoBulk d + 1
  | .slice elems spare => uptoBulkAll elems + uptoBulkAll spare + 1
  | .agg parts => uptoBulkAll parts + 1
  | .iface _ d => uptoBulk d + 1
  | .map entries => uptoBulkEntries entries + 1
  | .held _ => 1
def uptoBulkAll {H : Type} : List (DataW H) → Nat
  | [] => 0
  | d :: r => uptoBulk d + uptoBulkAll r
def uptoBulkEntries {H : Type} : List (Lit × DataW H) → Nat
  | [] => 0
  | x :: r => uptoBulkEntry x + uptoBulkEntries r
def uptoBulkEntry {H : Type} : Lit × DataW H → Nat
  | (.string bytes, d) => bytes.length + uptoBulk d + 1
  | (_, d) => uptoBulk d + 1
 end
def uptoSmall : (H : Type) → List (DataW H) → Bool := fun _ ds => decide (uptoBulkAll ds ≤ 1048576)
def OpenSpec.upto (s : _root_.Go.ChangeSpec) : _root_.Go.OpenSpec := { _root_.Go.OpenSpec.ofChange s with cond := some uptoSmall }

/-- 'sparsetreelaw01.BitsMatch', WHERE WHAT IT READS IS OF BULK AT MOST 1048576: true; the input reads as it did. -/
def bitsMatchUptoRow : OpenClaim := { program := "ytifonekpgaahlaa", sum := "1afb39e2567624b230867d50a416dd656b44c5c4c42fc4a108973132ea835148", func := "sparsetree/sparsetreelaw01.BitsMatch", spec := "bitsMatch", apart := false, narrowed := true }
def BitsMatchUptoSaid : Prop := bitsMatchUptoRow.holds Try.pinned (OpenSpec.upto bitsMatchSpec)

/-- 'sparsetreelaw01.BitsCommon', WHERE WHAT IT READS IS OF BULK AT MOST 1048576: true; the input reads as it did. -/
def bitsCommonUptoRow : OpenClaim := { program := "ytifonekpgaahlaa", sum := "1afb39e2567624b230867d50a416dd656b44c5c4c42fc4a108973132ea835148", func := "sparsetree/sparsetreelaw01.BitsCommon", spec := "bitsCommon", apart := false, narrowed := true }
def BitsCommonUptoSaid : Prop := bitsCommonUptoRow.holds Try.pinned (OpenSpec.upto bitsCommonSpec)

/-- 'sparsetreelaw01.BitsPrefix', WHERE WHAT IT READS IS OF BULK AT MOST 1048576: true; the input reads as it did. -/
def bitsPrefixUptoRow : OpenClaim := { program := "ytifonekpgaahlaa", sum := "1afb39e2567624b230867d50a416dd656b44c5c4c42fc4a108973132ea835148", func := "sparsetree/sparsetreelaw01.BitsPrefix", spec := "bitsPrefix", apart := false, narrowed := true }
def BitsPrefixUptoSaid : Prop := bitsPrefixUptoRow.holds Try.pinned (OpenSpec.upto bitsPrefixSpec)

/-- 'sparsetreelaw01.BitsCompare', WHERE WHAT IT READS IS OF BULK AT MOST 1048576: true; the input reads as it did. -/
def bitsCompareUptoRow : OpenClaim := { program := "ytifonekpgaahlaa", sum := "1afb39e2567624b230867d50a416dd656b44c5c4c42fc4a108973132ea835148", func := "sparsetree/sparsetreelaw01.BitsCompare", spec := "bitsCompare", apart := false, narrowed := true }
def BitsCompareUptoSaid : Prop := bitsCompareUptoRow.holds Try.pinned (OpenSpec.upto bitsCompareSpec)

/-- 'sparsetreelaw01.BitsDirections', WHERE WHAT IT READS IS OF BULK AT MOST 1048576: true; the input reads as it did. -/
def bitsDirectionsUptoRow : OpenClaim := { program := "ytifonekpgaahlaa", sum := "1afb39e2567624b230867d50a416dd656b44c5c4c42fc4a108973132ea835148", func := "sparsetree/sparsetreelaw01.BitsDirections", spec := "bitsDirections", apart := false, narrowed := true }
def BitsDirectionsUptoSaid : Prop := bitsDirectionsUptoRow.holds Try.pinned (OpenSpec.upto bitsDirectionsSpec)

/-- 'sparsetreelaw01.BitsAgree', WHERE WHAT IT READS IS OF BULK AT MOST 1048576: true; the input reads as it did. -/
def bitsAgreeUptoRow : OpenClaim := { program := "ytifonekpgaahlaa", sum := "1afb39e2567624b230867d50a416dd656b44c5c4c42fc4a108973132ea835148", func := "sparsetree/sparsetreelaw01.BitsAgree", spec := "bitsAgree", apart := false, narrowed := true }
def BitsAgreeUptoSaid : Prop := bitsAgreeUptoRow.holds Try.pinned (OpenSpec.upto bitsAgreeSpec)

end Rows
end Go.Proofs.Ytifonekpgaahlaa
