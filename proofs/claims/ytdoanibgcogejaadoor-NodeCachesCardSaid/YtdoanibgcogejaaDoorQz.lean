/- The program of layer 7 keeps its contract (scratch code). -/
import Derived.Test.YtdoanibgcogejaaDoorQg
namespace Go.Proofs.YtdoanibgcogejaaDoor
open Go.RowKit

theorem nd_c : NdV Mn where
  nil := fun _ _ => trivial
  below := Mn.below
  hs := Mn.hs
  addr := Mn.addr
  kids := fun ⟨_, _, _, ha, hb⟩ => ⟨ha, hb⟩
  key := fun ⟨_, _, _, _, _, he, hl⟩ => ⟨he.key, hl⟩
  leaf := newleaf_n
  join := join_n
  digest := fun w b n c T hh hc hv h => digest_n w b n c T hh (by omega) hv h
  kind := kind_n
  len := len_n
  left := left_n
  right := right_n
  entry := entry_n
  leafOf := leafOf_n
end Go.Proofs.YtdoanibgcogejaaDoor
