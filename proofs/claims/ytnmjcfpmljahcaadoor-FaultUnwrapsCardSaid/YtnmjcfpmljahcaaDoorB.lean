/- The contracts of coded and First. -/
import Derived.Test.YtnmjcfpmljahcaaDoorA
import Derived.Deep.QuietTactic
namespace Go.Proofs.YtnmjcfpmljahcaaDoor
open Go.RowKit

set_option maxHeartbeats 4000000 in
set_option maxRecDepth 100000 in
theorem coded_some (fs : List Fr) (c : Int) (v : Value) (w : World) (h : Chain w (.iface 31 (.int .i64 c)) fs v) (hl : fs.length ≤ 400000) :
    Calls Tryd.prog 22 #[v] w fun e w' => e = .returned v ∧ Below w.heap.size w w' := by
  have H := Lib.hid h
  clear h
  go_enter Tryd.func22, Tryd.ntmps22
  go_wp2_with (go_at_call 24; refine (apart_c fs _ v _ H.out (.inr (.inl ⟨c, rfl⟩)) hl).mono ?_; rintro e w1 ⟨s, rfl, hO, hB⟩; have HB := Lib.hid hB; clear hB hO)
  go_ret
  exact ⟨rfl, HB.out⟩
set_option maxHeartbeats 4000000 in
set_option maxRecDepth 100000 in
theorem coded_none (fs : List Fr) (leaf v : Value) (w : World) (hleaf : leaf = .nilIface ∨ leaf = .iface 47 (.agg #[])) (h : Chain w leaf fs v) (hl : fs.length ≤ 400000) :
    Calls Tryd.prog 22 #[v] w fun e w' => e = .returned .nilIface ∧ Below w.heap.size w w' := by
  have H := Lib.hid h
  clear h
  have ho : Other leaf := hleaf.elim .inl fun h => .inr (.inr h)
  have HO := Lib.hid ho
  clear ho
  go_enter Tryd.func22, Tryd.ntmps22
  rcases hleaf with rfl | rfl
  all_goals
    go_wp2_with (go_at_call 24; refine (apart_c fs _ v _ H.out HO.out hl).mono ?_; rintro e w1 ⟨s, rfl, hO, hB⟩; have HB := Lib.hid hB; clear hB hO)
    go_ret
    exact ⟨rfl, HB.out⟩

set_option maxHeartbeats 4000000 in
set_option maxRecDepth 100000 in
theorem first_some (b : Nat) (op : ByteArray) (n : Int) (v' : Value) (w : World) (h : w.heap[b]? = some (.cells #[.string op, .int .i64 n, v'] 42 (0, 0))) :
    Calls Tryd.prog 16 #[.iface 44 (.pointer (some ⟨b, 0, none⟩))] w fun e w' => e = .returned (.tuple #[.string op, .int .i64 n, .bool true]) ∧ Below w.heap.size w w' := by
  have c0 : w.cell? ⟨b, 0, none⟩ = some (.string op) := by rw [cell_of_cells h]; rfl
  have c1 : w.cell? ⟨b, 1, none⟩ = some (.int .i64 n) := by rw [cell_of_cells h]; rfl
  clear h
  go_enter Tryd.func16, Tryd.ntmps16
  go_wp2
  go_quiet (fail)
  go_wp2
  go_ret3
  exact ⟨rfl, below_drewN (Below.refl _ _) _⟩
set_option maxHeartbeats 4000000 in
set_option maxRecDepth 100000 in
theorem first_none (leaf : Value) (w : World) (hleaf : Other leaf) :
    Calls Tryd.prog 16 #[leaf] w fun e w' => e = .returned (.tuple #[.string ⟨#[]⟩, .int .i64 0, .bool false]) ∧ w = w' := by
  go_enter Tryd.func16, Tryd.ntmps16
  rcases hleaf with rfl | ⟨c, rfl⟩ | rfl
  all_goals
    go_wp2
    go_ret3
    exact ⟨rfl, rfl⟩
end Go.Proofs.YtnmjcfpmljahcaaDoor
