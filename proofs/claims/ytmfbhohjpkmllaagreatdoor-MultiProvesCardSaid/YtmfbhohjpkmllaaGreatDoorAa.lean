import Derived.Test.YtmfbhohjpkmllaaGreatDoorMM
import Derived.Test.YtmfbhohjpkmllaaGreatDoorMO
import Derived.Test.YtmfbhohjpkmllaaGreatDoorHc
namespace Go.Proofs.YtmfbhohjpkmllaaGreatDoor
set_option linter.unusedSimpArgs false
set_option linter.unusedVariables false
open Go.RowKit
structure Pf where
 kind : Int
 dep : Int
 lf : List UInt8
 bm : List UInt8
 sib : List (List UInt8)
structure Pf.Ok (p : Pf) : Prop where
 lf : p.lf.length = 64
 bm : p.bm.length = 32
 sib : ∀ s ∈ p.sib, s.length = 32
def bmL (k : Nat → Nat) : List UInt8 := (List.range 32).map fun j => UInt8.ofNat (k j)
theorem bmL_len (k : Nat → Nat) : (bmL k).length = 32 := by simp [bmL]
theorem keyF_bmL {k : Nat → Nat} (hk : Bt.Byt k) : ∀ j, j < 32 → keyF (bmL k) j = k j := fun j hj => by
 unfold keyF bmL
 rw [List.getD_eq_getElem?_getD, List.getElem?_map, List.getElem?_range hj]
 have := hk j
 simp; omega
end Go.Proofs.YtmfbhohjpkmllaaGreatDoor
