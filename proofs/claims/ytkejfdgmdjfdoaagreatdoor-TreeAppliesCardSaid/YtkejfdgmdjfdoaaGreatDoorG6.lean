import Derived.Test.YtkejfdgmdjfdoaaGreatDoorM7
import Derived.Test.YtkejfdgmdjfdoaaGreatDoorLd
import Derived.Test.YtkejfdgmdjfdoaaGreatDoorG5
import Derived.Test.YtkejfdgmdjfdoaaGreatDoorMT
import Derived.Test.YtkejfdgmdjfdoaaGreatDoorMO
import Derived.Test.YtkejfdgmdjfdoaaGreatDoorLa
import Derived.Lib.AppendZeros
namespace Go.Proofs.YtkejfdgmdjfdoaaGreatDoor
set_option linter.unusedSimpArgs false
set_option linter.unusedVariables false
section
open Go.RowKit
theorem incr (y : UInt8) : ∃ z : UInt8, IntKind.u8.wrap ((y.toNat : Int) + 1) = (z.toNat : Int) := by
 refine ⟨y + 1, ?_⟩
 rw [wrap_u8]
 have h := y.toNat_lt
 rw [UInt8.toNat_add]
 show ((y.toNat : Int) + 1) % 256 = (((y.toNat + 1) % 256 : Nat) : Int)
 omega
end
section
open Go.RowKit
theorem bits_c (b : Nat) (n : Int) (c : Nat) (w : World) (h : Hs w b n c) : Calls Tryz.prog 25 #[ptr b] w fun e w' => e = .returned (.int .i64 n) ∧ w = w' := by
 have h0 := h.cell1
 clear h
 unfold ptr
 go_enter Tryz.func25, Tryz.ntmps25
 go_wp2
 go_ret
 exact ⟨rfl, rfl⟩
end
section
open Go.RowKit
end
section
open Go.RowKit
theorem sep_none : Sep 0 [] := ⟨fun _ h => by simp at h, List.Pairwise.nil, fun _ h => by simp at h⟩
theorem map_none : IsMap [] .nil := ⟨sep_none, by rw [growT_none]; rfl⟩
end
section
open Go.RowKit
end
section
open Go.RowKit
structure Tf (M : World → Int → Tv → Prop) (W : World) (n : Int) (A : Option Addr) (m : List En) (T : Tv) (b c : Nat) (w : World) : Prop where
 fs : Fs M W n A m T w
 hs : ∃ c', c' ≤ c ∧ Hs w b n c'
 new : W.heap.size ≤ b
theorem Tf.below {M : World → Int → Tv → Prop} (nd : NdV M) {W w w' : World} {n : Int} {A : Option Addr} {m : List En} {T : Tv} {b c : Nat} (h : Tf M W n A m T b c w) (hb : Below w.heap.size w w') : Tf M W n A m T b c w' := by
 obtain ⟨c', hc, hh⟩ := h.hs
 exact ⟨h.fs.below nd hb, ⟨c', hc, hh.keep (Keep.of_below (L := fun _ => False) hb) fun h => h⟩, h.new⟩
end
section
open Go.RowKit
end
section
open Go.RowKit
end
section
open Go.RowKit
end
section
open Go.RowKit
end
section
open Go.RowKit
end
section
open Go.RowKit
end
end Go.Proofs.YtkejfdgmdjfdoaaGreatDoor
