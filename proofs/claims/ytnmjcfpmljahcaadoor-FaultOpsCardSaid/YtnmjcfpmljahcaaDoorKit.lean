/- Errors as chains of Faults in memory, and what a walk meets of them. -/
import Derived.Test.YtnmjcfpmljahcaaDoorRows
import Derived.WalkKit
import Derived.Lib.Hide
import Derived.WalkLawsBesides
import Derived.WalkSpells
import Derived.BigQuiet
import Derived.Deep.LoopGhost
import Derived.Below
import Derived.Deep.QuietTactic
import Derived.Outline
import Derived.Laws.AppendOwn
namespace Go.Proofs.YtnmjcfpmljahcaaDoor
open Go.RowKit

/-- A Fault: its block, its operation and its index. -/
structure Fr where
  b : Nat
  op : ByteArray
  n : Int
def Fr.p (f : Fr) : Value := .pointer (some ⟨f.b, 0, none⟩)

/-- The error v is the Faults fs, the outermost first, around the value leaf. -/
def Chain (w : World) (leaf : Value) : List Fr → Value → Prop
  | [], v => v = leaf
  | f :: r, v => v = .iface 44 (.pointer (some ⟨f.b, 0, none⟩)) ∧ ∃ v', w.heap[f.b]? = some (.cells #[.string f.op, .int .i64 f.n, v'] 42 (0, 0)) ∧ Chain w leaf r v'

theorem lt_of_heap {w : World} {b : Nat} {o : Obj} (h : w.heap[b]? = some o) : b < w.heap.size := by
  rcases Nat.lt_or_ge b w.heap.size with h' | h'
  · exact h'
  · rw [Array.getElem?_eq_none h'] at h; cases h
theorem cell_of_cells {w : World} {b : Nat} {cs : Array Value} {T : TypeId} {fr : Nat × Nat} (hb : w.heap[b]? = some (.cells cs T fr)) (j : Nat) : w.cell? ⟨b, j, none⟩ = cs[j]? := by
  simp [World.cell?, hb]
theorem Chain.below {w w' : World} {leaf : Value} (hb : Below w.heap.size w w') : ∀ {fs : List Fr} {v : Value}, Chain w leaf fs v → Chain w' leaf fs v
  | [], _, h => h
  | f :: r, v, h => by
    obtain ⟨h1, v', h2, h3⟩ := h
    exact ⟨h1, v', by rw [hb.block _ (lt_of_heap h2)]; exact h2, Chain.below hb h3⟩
theorem Chain.iface {w : World} {t : TypeId} {x : Value} {fs : List Fr} {v : Value} (h : Chain w (.iface t x) fs v) : ∃ u y, v = .iface u y := by
  cases fs with
  | nil => exact ⟨t, x, h⟩
  | cons f r => exact ⟨_, _, h.1⟩

theorem lt_of_cell {w : World} {a : Addr} {v : Value} (h : w.cell? a = some v) : a.block < w.heap.size := by
  rcases Nat.lt_or_ge a.block w.heap.size with h' | h'
  · exact h'
  · simp [World.cell?, Array.getElem?_eq_none h'] at h
theorem ret_bool {a b : Bool} (h : a = b) : Ending.returned (.bool a) = .returned (.bool b) := by rw [h]
theorem ret_str {a b : ByteArray} (h : a = b) : Ending.returned (.string a) = .returned (.string b) := by rw [h]
theorem below_drewN {B : Nat} {a w : World} (h : Below B a w) (n : Nat) : Below B a (w.drewN n) := ⟨h.os, h.tape, h.output, h.size, h.block⟩

/-! ### Type assertions, comma-ok -/
@[go_sem] theorem ta44_hit (v : Value) (w : World) : (Instr.typeAssert (.iface 44 v) 26 44 true).run Tryd.prog w = .ok (.tuple #[v, .bool true]) w := by kernel_rfl
@[go_sem] theorem ta44_nil (w : World) : (Instr.typeAssert .nilIface 26 44 true).run Tryd.prog w = .ok (.tuple #[.pointer none, .bool false]) w := by kernel_rfl
@[go_sem] theorem ta44_errno (v : Value) (w : World) : (Instr.typeAssert (.iface 31 v) 26 44 true).run Tryd.prog w = .ok (.tuple #[.pointer none, .bool false]) w := by kernel_rfl
@[go_sem] theorem ta44_plain (v : Value) (w : World) : (Instr.typeAssert (.iface 47 v) 26 44 true).run Tryd.prog w = .ok (.tuple #[.pointer none, .bool false]) w := by kernel_rfl
@[go_sem] theorem ta31_hit (v : Value) (w : World) : (Instr.typeAssert (.iface 31 v) 26 31 true).run Tryd.prog w = .ok (.tuple #[v, .bool true]) w := by kernel_rfl
@[go_sem] theorem ta31_nil (w : World) : (Instr.typeAssert .nilIface 26 31 true).run Tryd.prog w = .ok (.tuple #[.int .i64 0, .bool false]) w := by kernel_rfl
@[go_sem] theorem ta31_plain (v : Value) (w : World) : (Instr.typeAssert (.iface 47 v) 26 31 true).run Tryd.prog w = .ok (.tuple #[.int .i64 0, .bool false]) w := by kernel_rfl

theorem unwrap_c (b : Nat) (s n v' : Value) (w : World) (h : w.heap[b]? = some (.cells #[s, n, v'] 42 (0, 0))) :
    Calls Tryd.prog 17 #[.pointer (some ⟨b, 0, none⟩)] w fun e w' => e = .returned v' ∧ w = w' := by
  have h2 : w.cell? ⟨b, 2, none⟩ = some v' := by rw [cell_of_cells h]; rfl
  clear h
  go_enter Tryd.func17, Tryd.ntmps17
  go_wp2
  go_ret
  exact ⟨rfl, rfl⟩
theorem unwrap_nil (w : World) : Calls Tryd.prog 17 #[.pointer none] w fun e w' => e = .returned .nilIface ∧ w = w' := by
  go_enter Tryd.func17, Tryd.ntmps17
  go_wp2
  go_ret
  exact ⟨rfl, rfl⟩
theorem new_nil (s n : Value) (w : World) : Calls Tryd.prog 19 #[s, n, .nilIface] w fun e w' => e = .returned .nilIface ∧ w = w' := by
  go_enter Tryd.func19, Tryd.ntmps19
  go_wp2
  go_ret
  exact ⟨rfl, rfl⟩
theorem new_c (s : ByteArray) (n : Int) (t : TypeId) (x : Value) (w : World) : Calls Tryd.prog 19 #[.string s, .int .i64 n, .iface t x] w fun e w' =>
    e = .returned (.iface 44 (.pointer (some ⟨w.heap.size, 0, none⟩))) ∧ w' = w.alloc (.cells #[.string s, .int .i64 n, .iface t x] 42) := by
  go_enter Tryd.func19, Tryd.ntmps19
  go_wp2
  go_ret
  exact ⟨rfl, rfl⟩
end Go.Proofs.YtnmjcfpmljahcaaDoor
