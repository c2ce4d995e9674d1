/-
  NARROWER THAN 'FOR EVERY INPUT', by the rows' own cells (each row's printed sentence says how): FindLocates: laid · FindGets: laid · FindSiblings: laid · FindWays: laid · FindUnder: laid · FindCopies: laid.
  DERIVED. THE GIVEN ROWS OF THIS SEAT. 6 by the template 'for every input the law returns true; each argument reads behind the call as it read before'; 0 by the template 'total and deterministic' (their statements: YtpnpdllkcglpnaaDoorTotals.lean).
  GIVEN WITH THE SEED: the statements are not yours to turn. If you find one false, say at which input.
  Laid BY PROGRAM, IN A SANDBOX (cutbox-rows.mjs): the forced cells as the released guide's own fill.sh prints them over the translation 73d4cba67f85cb42… (all of the seat's roots in one cut). By AI agents, Wed Nov 11 2026. No macro, syntax, notation, axiom, sorry.
-/
import Derived.Test.YtpnpdllkcglpnaaDoorChecked
import GoSem.Claim
import GoSem.ClaimJoined
import GoSem.ClaimMapViews
import Derived.JoinedTies
import Derived.KernelRfl
namespace Go.Proofs.YtpnpdllkcglpnaaDoor
/- THE CELL 'sum', in the pinned program and in every row, IS THE sha256 OF THE DUMP (.gsa) THAT YtpnpdllkcglpnaaDoorProg.lean LOADS. Nothing in Lean hashes anything: it is a label: what it is worth is what the hold of that sum in a sandbox is worth. -/
noncomputable def Tryd.pinned : Pinned := { name := "ytpnpdllkcglpnaadoor", sum := "73d4cba67f85cb42af47d89c44180d26887410a5a5efe4509acbf3482cc9983a", checked := Tryd.checked }
namespace Rows
def none {H : Type} : Left H := { results := [], args := [] }

/- WHAT THE LISTED PACKAGE-LEVEL VARIABLES READ AS WHEN THE CALL BEGINS. Each datum BY PROGRAM (the guide's laid-datum.mjs) off the statement by which the dump's own 'gosem.cut.vars' lays the variable. In a bare row this is a premise. The card (YtpnpdllkcglpnaaDoorCards.lean) ties it to the program's text. -/
def laid_sparsetree_sha_initial {H : Type} : DataW H := .agg [.lit (.int .u32 1779033703), .lit (.int .u32 3144134277), .lit (.int .u32 1013904242), .lit (.int .u32 2773480762), .lit (.int .u32 1359893119), .lit (.int .u32 2600822924), .lit (.int .u32 528734635), .lit (.int .u32 1541459225)]
def laid_sparsetree_sha_constants {H : Type} : DataW H := .agg [.lit (.int .u32 1116352408), .lit (.int .u32 1899447441), .lit (.int .u32 3049323471), .lit (.int .u32 3921009573), .lit (.int .u32 961987163), .lit (.int .u32 1508970993), .lit (.int .u32 2453635748), .lit (.int .u32 2870763221), .lit (.int .u32 3624381080), .lit (.int .u32 310598401), .lit (.int .u32 607225278), .lit (.int .u32 1426881987), .lit (.int .u32 1925078388), .lit (.int .u32 2162078206), .lit (.int .u32 2614888103), .lit (.int .u32 3248222580), .lit (.int .u32 3835390401), .lit (.int .u32 4022224774), .lit (.int .u32 264347078), .lit (.int .u32 604807628), .lit (.int .u32 770255983), .lit (.int .u32 1249150122), .lit (.int .u32 1555081692), .lit (.int .u32 1996064986), .lit (.int .u32 2554220882), .lit (.int .u32 2821834349), .lit (.int .u32 2952996808), .lit (.int .u32 3210313671), .lit (.int .u32 3336571891), .lit (.int .u32 3584528711), .lit (.int .u32 113926993), .lit (.int .u32 338241895), .lit (.int .u32 666307205), .lit (.int .u32 773529912), .lit (.int .u32 1294757372), .lit (.int .u32 1396182291), .lit (.int .u32 1695183700), .lit (.int .u32 1986661051), .lit (.int .u32 2177026350), .lit (.int .u32 2456956037), .lit (.int .u32 2730485921), .lit (.int .u32 2820302411), .lit (.int .u32 3259730800), .lit (.int .u32 3345764771), .lit (.int .u32 3516065817), .lit (.int .u32 3600352804), .lit (.int .u32 4094571909), .lit (.int .u32 275423344), .lit (.int .u32 430227734), .lit (.int .u32 506948616), .lit (.int .u32 659060556), .lit (.int .u32 883997877), .lit (.int .u32 958139571), .lit (.int .u32 1322822218), .lit (.int .u32 1537002063), .lit (.int .u32 1747873779), .lit (.int .u32 1955562222), .lit (.int .u32 2024104815), .lit (.int .u32 2227730452), .lit (.int .u32 2361852424), .lit (.int .u32 2428436474), .lit (.int .u32 2756734187), .lit (.int .u32 3204031479), .lit (.int .u32 3329325298)]

/-- 'sparsetreelaw08.FindLocates': WHATEVER THE INPUT: true; the input reads as it did. -/
def findLocatesSpec : ChangeSpec := { name := "findLocates", fn := fun _ => fun
  | [d1, d2, d3] => { results := [.lit (.bool true)], args := [d1, d2, d3] }
  | _ => none }
def findLocatesRow : OpenClaim := { program := "ytpnpdllkcglpnaadoor", sum := "73d4cba67f85cb42af47d89c44180d26887410a5a5efe4509acbf3482cc9983a", func := "sparsetree/sparsetreelaw08.FindLocates", spec := "findLocates", unfollowed := true, recurses := true, named := ["sparsetree/sha.initial", "sparsetree/sha.constants"], apart := false, laid := [("sparsetree/sha.initial", laid_sparsetree_sha_initial), ("sparsetree/sha.constants", laid_sparsetree_sha_constants)] }
def FindLocatesSaid : Prop := findLocatesRow.holds Tryd.pinned (OpenSpec.ofChange findLocatesSpec)

/-- ITS FALSE NEIGHBOUR: 'it returns false'. Refute it at one input. -/
def findLocatesWrong : ChangeSpec := { name := "findLocates", fn := fun _ => fun
  | [d1, d2, d3] => { results := [.lit (.bool false)], args := [d1, d2, d3] }
  | _ => none }
def FindLocatesWrongFalsely : Prop := findLocatesRow.holds Tryd.pinned (OpenSpec.ofChange findLocatesWrong)

/-- 'sparsetreelaw08.FindGets': WHATEVER THE INPUT: true; the input reads as it did. -/
def findGetsSpec : ChangeSpec := { name := "findGets", fn := fun _ => fun
  | [d1, d2, d3] => { results := [.lit (.bool true)], args := [d1, d2, d3] }
  | _ => none }
def findGetsRow : OpenClaim := { program := "ytpnpdllkcglpnaadoor", sum := "73d4cba67f85cb42af47d89c44180d26887410a5a5efe4509acbf3482cc9983a", func := "sparsetree/sparsetreelaw08.FindGets", spec := "findGets", unfollowed := true, recurses := true, named := ["sparsetree/sha.initial", "sparsetree/sha.constants"], apart := false, laid := [("sparsetree/sha.initial", laid_sparsetree_sha_initial), ("sparsetree/sha.constants", laid_sparsetree_sha_constants)] }
def FindGetsSaid : Prop := findGetsRow.holds Tryd.pinned (OpenSpec.ofChange findGetsSpec)

/-- ITS FALSE NEIGHBOUR: 'it returns false'. Refute it at one input. -/
def findGetsWrong : ChangeSpec := { name := "findGets", fn := fun _ => fun
  | [d1, d2, d3] => { results := [.lit (.bool false)], args := [d1, d2, d3] }
  | _ => none }
def FindGetsWrongFalsely : Prop := findGetsRow.holds Tryd.pinned (OpenSpec.ofChange findGetsWrong)

/-- 'sparsetreelaw08.FindSiblings': WHATEVER THE INPUT: true; the input reads as it did. -/
def findSiblingsSpec : ChangeSpec := { name := "findSiblings", fn := fun _ => fun
  | [d1, d2, d3] => { results := [.lit (.bool true)], args := [d1, d2, d3] }
  | _ => none }
def findSiblingsRow : OpenClaim := { program := "ytpnpdllkcglpnaadoor", sum := "73d4cba67f85cb42af47d89c44180d26887410a5a5efe4509acbf3482cc9983a", func := "sparsetree/sparsetreelaw08.FindSiblings", spec := "findSiblings", unfollowed := true, recurses := true, named := ["sparsetree/sha.initial", "sparsetree/sha.constants"], apart := false, laid := [("sparsetree/sha.initial", laid_sparsetree_sha_initial), ("sparsetree/sha.constants", laid_sparsetree_sha_constants)] }
def FindSiblingsSaid : Prop := findSiblingsRow.holds Tryd.pinned (OpenSpec.ofChange findSiblingsSpec)

/-- ITS FALSE NEIGHBOUR: 'it returns false'. Refute it at one input. -/
def findSiblingsWrong : ChangeSpec := { name := "findSiblings", fn := fun _ => fun
  | [d1, d2, d3] => { results := [.lit (.bool false)], args := [d1, d2, d3] }
  | _ => none }
def FindSiblingsWrongFalsely : Prop := findSiblingsRow.holds Tryd.pinned (OpenSpec.ofChange findSiblingsWrong)

/-- 'sparsetreelaw08.FindWays': WHATEVER THE INPUT: true; the input reads as it did. -/
def findWaysSpec : ChangeSpec := { name := "findWays", fn := fun _ => fun
  | [d1, d2, d3] => { results := [.lit (.bool true)], args := [d1, d2, d3] }
  | _ => none }
def findWaysRow : OpenClaim := { program := "ytpnpdllkcglpnaadoor", sum := "73d4cba67f85cb42af47d89c44180d26887410a5a5efe4509acbf3482cc9983a", func := "sparsetree/sparsetreelaw08.FindWays", spec := "findWays", unfollowed := true, recurses := true, named := ["sparsetree/sha.initial", "sparsetree/sha.constants"], apart := false, laid := [("sparsetree/sha.initial", laid_sparsetree_sha_initial), ("sparsetree/sha.constants", laid_sparsetree_sha_constants)] }
def FindWaysSaid : Prop := findWaysRow.holds Tryd.pinned (OpenSpec.ofChange findWaysSpec)

/-- ITS FALSE NEIGHBOUR: 'it returns false'. Refute it at one input. -/
def findWaysWrong : ChangeSpec := { name := "findWays", fn := fun _ => fun
  | [d1, d2, d3] => { results := [.lit (.bool false)], args := [d1, d2, d3] }
  | _ => none }
def FindWaysWrongFalsely : Prop := findWaysRow.holds Tryd.pinned (OpenSpec.ofChange findWaysWrong)

/-- 'sparsetreelaw08.FindUnder': WHATEVER THE INPUT: true; the input reads as it did. -/
def findUnderSpec : ChangeSpec := { name := "findUnder", fn := fun _ => fun
  | [d1, d2, d3] => { results := [.lit (.bool true)], args := [d1, d2, d3] }
  | _ => none }
def findUnderRow : OpenClaim := { program := "ytpnpdllkcglpnaadoor", sum := "73d4cba67f85cb42af47d89c44180d26887410a5a5efe4509acbf3482cc9983a", func := "sparsetree/sparsetreelaw08.FindUnder", spec := "findUnder", unfollowed := true, recurses := true, named := ["sparsetree/sha.initial", "sparsetree/sha.constants"], apart := false, laid := [("sparsetree/sha.initial", laid_sparsetree_sha_initial), ("sparsetree/sha.constants", laid_sparsetree_sha_constants)] }
def FindUnderSaid : Prop := findUnderRow.holds Tryd.pinned (OpenSpec.ofChange findUnderSpec)

/-- ITS FALSE NEIGHBOUR: 'it returns false'. Refute it at one input. -/
def findUnderWrong : ChangeSpec := { name := "findUnder", fn := fun _ => fun
  | [d1, d2, d3] => { results := [.lit (.bool false)], args := [d1, d2, d3] }
  | _ => none }
def FindUnderWrongFalsely : Prop := findUnderRow.holds Tryd.pinned (OpenSpec.ofChange findUnderWrong)

/-- 'sparsetreelaw08.FindCopies': WHATEVER THE INPUT: true; the input reads as it did. -/
def findCopiesSpec : ChangeSpec := { name := "findCopies", fn := fun _ => fun
  | [d1, d2, d3] => { results := [.lit (.bool true)], args := [d1, d2, d3] }
  | _ => none }
def findCopiesRow : OpenClaim := { program := "ytpnpdllkcglpnaadoor", sum := "73d4cba67f85cb42af47d89c44180d26887410a5a5efe4509acbf3482cc9983a", func := "sparsetree/sparsetreelaw08.FindCopies", spec := "findCopies", unfollowed := true, recurses := true, named := ["sparsetree/sha.initial", "sparsetree/sha.constants"], apart := false, laid := [("sparsetree/sha.initial", laid_sparsetree_sha_initial), ("sparsetree/sha.constants", laid_sparsetree_sha_constants)] }
def FindCopiesSaid : Prop := findCopiesRow.holds Tryd.pinned (OpenSpec.ofChange findCopiesSpec)

/-- ITS FALSE NEIGHBOUR: 'it returns false'. Refute it at one input. -/
def findCopiesWrong : ChangeSpec := { name := "findCopies", fn := fun _ => fun
  | [d1, d2, d3] => { results := [.lit (.bool false)], args := [d1, d2, d3] }
  | _ => none }
def FindCopiesWrongFalsely : Prop := findCopiesRow.holds Tryd.pinned (OpenSpec.ofChange findCopiesWrong)

/- THE SECOND FORM. 'bulk': how many values and letters a reading holds, each counted each time it is reached (what is shared counts as often as it is met; a slice's spare places count too). A statement '..UptoSaid' is the law's where the arguments, and the package variables that the reading takes, are together of bulk at most 1048576: NARROWER than '..Said'. Prove '..Said' where nothing that the law and all that it calls make is longer than what came in: it says more and counts as full. Else prove '..UptoSaid'. A law counts once. -/
mutual
def uptoBulk {H : Type} : DataW H → Nat
  | .lit (.string bytes) => bytes.length + 1
  | .lit _ => 1
  | .nil => 1
  | .ptr d => uptoBulk d + 1
  | .slice elems spare => uptoBulkAll elems + uptoBulkAll spare + 1
  | .agg parts => uptoBulkAll parts + 1
  | .iface _ d => uptoBulk d + 1
  | .map entries => uptoBulkEntries entries + 1
  | .held _ => 1
def uptoBulkAll {H : Type} : List (DataW H) → Nat
  | [] => 0
  | d :: r => uptoBulk d + uptoBulkAll r
def uptoBulkEntries {H : Type} : List (Lit × DataW H) → Nat
  | [] => 0
  | x :: r => uptoBulkEntry x + uptoBulkEntries r
def uptoBulkEntry {H : Type} : Lit × DataW H → Nat
  | (.string bytes, d) => bytes.length + uptoBulk d + 1
  | (_, d) => uptoBulk d + 1
 end
def uptoSmall : (H : Type) → List (DataW H) → Bool := fun _ ds => decide (uptoBulkAll ds ≤ 1048576)
def OpenSpec.upto (s : _root_.Go.ChangeSpec) : _root_.Go.OpenSpec := { _root_.Go.OpenSpec.ofChange s with cond := some uptoSmall }

/-- 'sparsetreelaw08.FindLocates', WHERE WHAT IT READS IS OF BULK AT MOST 1048576: true; the input reads as it did. -/
def findLocatesUptoRow : OpenClaim := { program := "ytpnpdllkcglpnaadoor", sum := "73d4cba67f85cb42af47d89c44180d26887410a5a5efe4509acbf3482cc9983a", func := "sparsetree/sparsetreelaw08.FindLocates", spec := "findLocates", unfollowed := true, recurses := true, named := ["sparsetree/sha.initial", "sparsetree/sha.constants"], apart := false, laid := [("sparsetree/sha.initial", laid_sparsetree_sha_initial), ("sparsetree/sha.constants", laid_sparsetree_sha_constants)], narrowed := true }
def FindLocatesUptoSaid : Prop := findLocatesUptoRow.holds Tryd.pinned (OpenSpec.upto findLocatesSpec)

/-- 'sparsetreelaw08.FindGets', WHERE WHAT IT READS IS OF BULK AT MOST 1048576: true; the input reads as it did. -/
def findGetsUptoRow : OpenClaim := { program := "ytpnpdllkcglpnaadoor", sum := "73d4cba67f85cb42af47d89c44180d26887410a5a5efe4509acbf3482cc9983a", func := "sparsetree/sparsetreelaw08.FindGets", spec := "findGets", unfollowed := true, recurses := true, named := ["sparsetree/sha.initial", "sparsetree/sha.constants"], apart := false, laid := [("sparsetree/sha.initial", laid_sparsetree_sha_initial), ("sparsetree/sha.constants", laid_sparsetree_sha_constants)], narrowed := true }
def FindGetsUptoSaid : Prop := findGetsUptoRow.holds Tryd.pinned (OpenSpec.upto findGetsSpec)

/-- 'sparsetreelaw08.FindSiblings', WHERE WHAT IT READS IS OF BULK AT MOST 1048576: true; the input reads as it did. -/
def findSiblingsUptoRow : OpenClaim := { program := "ytpnpdllkcglpnaadoor", sum := "73d4cba67f85cb42af47d89c44180d26887410a5a5efe4509acbf3482cc9983a", func := "sparsetree/sparsetreelaw08.FindSiblings", spec := "findSiblings", unfollowed := true, recurses := true, named := ["sparsetree/sha.initial", "sparsetree/sha.constants"], apart := false, laid := [("sparsetree/sha.initial", laid_sparsetree_sha_initial), ("sparsetree/sha.constants", laid_sparsetree_sha_constants)], narrowed := true }
def FindSiblingsUptoSaid : Prop := findSiblingsUptoRow.holds Tryd.pinned (OpenSpec.upto findSiblingsSpec)

/-- 'sparsetreelaw08.FindWays', WHERE WHAT IT READS IS OF BULK AT MOST 1048576: true; the input reads as it did. -/
def findWaysUptoRow : OpenClaim := { program := "ytpnpdllkcglpnaadoor", sum := "73d4cba67f85cb42af47d89c44180d26887410a5a5efe4509acbf3482cc9983a", func := "sparsetree/sparsetreelaw08.FindWays", spec := "findWays", unfollowed := true, recurses := true, named := ["sparsetree/sha.initial", "sparsetree/sha.constants"], apart := false, laid := [("sparsetree/sha.initial", laid_sparsetree_sha_initial), ("sparsetree/sha.constants", laid_sparsetree_sha_constants)], narrowed := true }
def FindWaysUptoSaid : Prop := findWaysUptoRow.holds Tryd.pinned (OpenSpec.upto findWaysSpec)

/-- 'sparsetreelaw08.FindUnder', WHERE WHAT IT READS IS OF BULK AT MOST 1048576: true; the input reads as it did. -/
def findUnderUptoRow : OpenClaim := { program := "ytpnpdllkcglpnaadoor", sum := "73d4cba67f85cb42af47d89c44180d26887410a5a5efe4509acbf3482cc9983a", func := "sparsetree/sparsetreelaw08.FindUnder", spec := "findUnder", unfollowed := true, recurses := true, named := ["sparsetree/sha.initial", "sparsetree/sha.constants"], apart := false, laid := [("sparsetree/sha.initial", laid_sparsetree_sha_initial), ("sparsetree/sha.constants", laid_sparsetree_sha_constants)], narrowed := true }
def FindUnderUptoSaid : Prop := findUnderUptoRow.holds Tryd.pinned (OpenSpec.upto findUnderSpec)

/-- 'sparsetreelaw08.FindCopies', WHERE WHAT IT READS IS OF BULK AT MOST 1048576: true; the input reads as it did. -/
def findCopiesUptoRow : OpenClaim := { program := "ytpnpdllkcglpnaadoor", sum := "73d4cba67f85cb42af47d89c44180d26887410a5a5efe4509acbf3482cc9983a", func := "sparsetree/sparsetreelaw08.FindCopies", spec := "findCopies", unfollowed := true, recurses := true, named := ["sparsetree/sha.initial", "sparsetree/sha.constants"], apart := false, laid := [("sparsetree/sha.initial", laid_sparsetree_sha_initial), ("sparsetree/sha.constants", laid_sparsetree_sha_constants)], narrowed := true }
def FindCopiesUptoSaid : Prop := findCopiesUptoRow.holds Tryd.pinned (OpenSpec.upto findCopiesSpec)

end Rows
end Go.Proofs.YtpnpdllkcglpnaaDoor
