/- Several texts in one: Tb Tc Cs Td Te Tf Tg Th Ti Xj. -/
import Derived.Test.YtaajnjddfcdeaaaDoorMT
import Derived.Test.YtaajnjddfcdeaaaDoorDm
import Derived.Test.YtaajnjddfcdeaaaDoorMO
import Derived.Test.YtaajnjddfcdeaaaDoorLa
import Derived.Test.YtaajnjddfcdeaaaDoorM7
import Derived.Lib.AppendZeros
import Derived.Test.YtaajnjddfcdeaaaDoorNg
/- The law's Is: a tree that is the map's. -/
namespace Go.Proofs.YtaajnjddfcdeaaaDoor
open Go.RowKit
end Go.Proofs.YtaajnjddfcdeaaaDoor

/- alive of layer 9 over contracts. -/
namespace Go.Proofs.YtaajnjddfcdeaaaDoor
open Go.RowKit

end Go.Proofs.YtaajnjddfcdeaaaDoor

/- The library's slices.Clone at bytes: new memory. -/
namespace Go.Proofs.YtaajnjddfcdeaaaDoor
open Go.RowKit
end Go.Proofs.YtaajnjddfcdeaaaDoor

/- What all the laws of layer 9 begin with. -/
namespace Go.Proofs.YtaajnjddfcdeaaaDoor
open Go.RowKit

/-- What a law's walk knows behind the tree and the hasher. -/
structure Tf (M : World → Int → Tv → Prop) (W : World) (n : Int) (A : Option Addr) (m : List En) (T : Tv) (b c : Nat) (w : World) : Prop where
  fs : Fs M W n A m T w
  hs : ∃ c', c' ≤ c ∧ Hs w b n c'
  new : W.heap.size ≤ b
theorem Tf.below {M : World → Int → Tv → Prop} (nd : NdV M) {W w w' : World} {n : Int} {A : Option Addr} {m : List En} {T : Tv} {b c : Nat} (h : Tf M W n A m T b c w) (hb : Below w.heap.size w w') : Tf M W n A m T b c w' := by
  obtain ⟨c', hc, hh⟩ := h.hs
  exact ⟨h.fs.below nd hb, ⟨c', hc, hh.keep (Keep.of_below (L := fun _ => False) hb) fun h => h⟩, h.new⟩
end Go.Proofs.YtaajnjddfcdeaaaDoor

/- The walk of PutPuts over contracts. -/
namespace Go.Proofs.YtaajnjddfcdeaaaDoor
open Go.RowKit
end Go.Proofs.YtaajnjddfcdeaaaDoor

/- The walk of PutAll over contracts. -/
namespace Go.Proofs.YtaajnjddfcdeaaaDoor
open Go.RowKit

end Go.Proofs.YtaajnjddfcdeaaaDoor

/- Ways and siblings where an entry is put in: plain facts. -/
namespace Go.Proofs.YtaajnjddfcdeaaaDoor
open Go.RowKit

end Go.Proofs.YtaajnjddfcdeaaaDoor

/- The walk of PutShares over contracts (its drawn regions by program). -/
namespace Go.Proofs.YtaajnjddfcdeaaaDoor
open Go.RowKit
end Go.Proofs.YtaajnjddfcdeaaaDoor

/- The walk of PutCommutes over contracts (its drawn regions by program). -/
namespace Go.Proofs.YtaajnjddfcdeaaaDoor
open Go.RowKit

theorem IsMap.perm {l m : List Ent} {T S : Tv} (h : IsMap l T) (h' : IsMap m S) (p : l.Perm m) : T.tr = S.tr := by
  rw [h.tr, h'.tr]
  exact growT_perm 257 l m 0 h.sep (.inr ⟨by omega, by omega, by omega⟩) p
end Go.Proofs.YtaajnjddfcdeaaaDoor

/- The laws of layer 9, their cases together. -/
namespace Go.Proofs.YtaajnjddfcdeaaaDoor
open Go.RowKit

end Go.Proofs.YtaajnjddfcdeaaaDoor
