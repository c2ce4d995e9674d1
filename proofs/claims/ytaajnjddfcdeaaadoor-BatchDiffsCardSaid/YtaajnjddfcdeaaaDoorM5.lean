/- Several texts in one: Dg Dc. -/
import Derived.Test.YtaajnjddfcdeaaaDoorP
import Derived.Test.YtaajnjddfcdeaaaDoorM3
/- The reference's Cut and Sum of layer 5. -/
namespace Go.Proofs.YtaajnjddfcdeaaaDoor
open Go.RowKit

/-- A row of 32 bytes as a key: a function of the place. -/
def kF (l : List UInt8) : Nat → Nat := fun j => (l.getD j 0).toNat
theorem kF_byt (l : List UInt8) : Bt.Byt (kF l) := fun _ => UInt8.toNat_lt _
/-- The first bits of a row of 32 bytes; the other ones are 0. -/
def cutL (n : Int) (l : List UInt8) : List UInt8 := (List.range 32).map fun j => UInt8.ofNat (Bt.pre (kF l) (Bt.lim n) j)
theorem cutL_len (n : Int) (l : List UInt8) : (cutL n l).length = 32 := by simp [cutL]
/-- The digest of bytes for a number of bits. -/
def digL (n : Int) (l : List UInt8) : List UInt8 := cutL n (sumL l)
end Go.Proofs.YtaajnjddfcdeaaaDoor

/- Digests of a number of bits: plain facts. -/
namespace Go.Proofs.YtaajnjddfcdeaaaDoor
open Go.RowKit

theorem kF_cutL (n : Int) (l : List UInt8) (j : Nat) (hj : j < 32) : kF (cutL n l) j = Bt.pre (kF l) (Bt.lim n) j := by
  have hb := Bt.pre_byt (kF_byt l) (Bt.lim n) j
  simp [kF, cutL, List.getD_eq_getElem?_getD, hj]
  omega
theorem dig_len (n : Int) (l : List UInt8) : (digL n l).length = 32 := cutL_len _ _
end Go.Proofs.YtaajnjddfcdeaaaDoor
