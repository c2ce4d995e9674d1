/- Whole arrays stay folded: load, store, index of an array whose cells are one array; what a call may write. -/
import Derived.Test.YtaajnjddfcdeaaaDoorB
import Derived.Test.YtaajnjddfcdeaaaDoorPd
import Derived.Deep.WholeRow
import Derived.Test.YtaajnjddfcdeaaaDoorTail
import Derived.Deep.MidRow
import Derived.Laws.CopyOwn
namespace Go.Proofs.YtaajnjddfcdeaaaDoor
open Go.RowKit

attribute [go_sem] u_one
@[go_sem] theorem run_store_u (w : World) (a : Addr) (x : UInt32) (m : Mode) : (store a (u x) m).run Tryd.prog w = stored Tryd.prog w a (u x) m := run_store Tryd.prog w a _ m rfl
noncomputable def stU (w : World) (p v : Value) : Result Next := Sem.run Tryd.prog (do Instr.storeAt 137 p v; pure .skip) w
@[go_sem ↓] theorem execOp_store38 (ρ : Operand → Value) (dst : Option Tmp) (x y : Operand) (type : TypeId) (pos : String) (after : Array Edge) (guard : Option (Nat × Bool)) (w : World) :
    Sem.run Tryd.prog (execOp ρ { dst, op := .store 137 x y, type, pos, after, guard }) w = stU w (ρ x) (ρ y) := rfl
@[go_sem] theorem stU_u (w : World) (g j : Nat) (x : UInt32) : stU w (.pointer (some ⟨g, j, none⟩)) (u x) = ((store ⟨g, j, none⟩ (u x)).run Tryd.prog w).andThen fun _ w' => .ok .skip w' := by
  obtain ⟨i0, hi, hz0, hz1, hz2⟩ := info_parts info38
  have hadd : (⟨g, j, none⟩ : Addr).add 0 = ⟨g, j, none⟩ := by unfold Addr.add; split <;> simp_all
  have hs : (sizeOf 137).run Tryd.prog w = .ok 1 w := by simp [sizeOf, typeInfo, hi, hz1]
  have hc : (u x).cells = #[u x] := rfl
  unfold stU
  simp [Instr.storeAt, Instr.sureAddr, storeVar, hs, hc, storeCells, hadd]
@[go_sem ↓] theorem execOp_load39 (ρ : Operand → Value) (dst : Option Tmp) (x : Operand) (type : TypeId) (pos : String) (after : Array Edge) (guard : Option (Nat × Bool)) (w : World) :
    Sem.run Tryd.prog (execOp ρ { dst, op := .load 138 x, type, pos, after, guard }) w = ldA 138 w (ρ x) := rfl
@[go_sem ↓] theorem execOp_load56 (ρ : Operand → Value) (dst : Option Tmp) (x : Operand) (type : TypeId) (pos : String) (after : Array Edge) (guard : Option (Nat × Bool)) (w : World) :
    Sem.run Tryd.prog (execOp ρ { dst, op := .load 148 x, type, pos, after, guard }) w = ldA 148 w (ρ x) := rfl
@[go_sem ↓] theorem execOp_load58 (ρ : Operand → Value) (dst : Option Tmp) (x : Operand) (type : TypeId) (pos : String) (after : Array Edge) (guard : Option (Nat × Bool)) (w : World) :
    Sem.run Tryd.prog (execOp ρ { dst, op := .load 150 x, type, pos, after, guard }) w = ldA 150 w (ρ x) := rfl
@[go_sem ↓] theorem execOp_store39 (ρ : Operand → Value) (dst : Option Tmp) (x y : Operand) (type : TypeId) (pos : String) (after : Array Edge) (guard : Option (Nat × Bool)) (w : World) :
    Sem.run Tryd.prog (execOp ρ { dst, op := .store 138 x y, type, pos, after, guard }) w = stA 138 w (ρ x) (ρ y) := rfl
@[go_sem ↓] theorem execOp_store49 (ρ : Operand → Value) (dst : Option Tmp) (x y : Operand) (type : TypeId) (pos : String) (after : Array Edge) (guard : Option (Nat × Bool)) (w : World) :
    Sem.run Tryd.prog (execOp ρ { dst, op := .store 140 x y, type, pos, after, guard }) w = stA 140 w (ρ x) (ρ y) := rfl
@[go_sem ↓] theorem execOp_store58 (ρ : Operand → Value) (dst : Option Tmp) (x y : Operand) (type : TypeId) (pos : String) (after : Array Edge) (guard : Option (Nat × Bool)) (w : World) :
    Sem.run Tryd.prog (execOp ρ { dst, op := .store 150 x y, type, pos, after, guard }) w = stA 150 w (ρ x) (ρ y) := rfl
theorem info39 : (Tryd.prog.info? 138).map (·.size) = some 8 := by kernel_rfl
theorem info49 : (Tryd.prog.info? 140).map (·.size) = some 8 := by kernel_rfl
theorem info56 : (Tryd.prog.info? 148).map (·.size) = some 64 := by kernel_rfl
theorem info58 : (Tryd.prog.info? 150).map (·.size) = some 64 := by kernel_rfl
def uA (l : List UInt32) : Array Value := (l.map u).toArray
theorem uA_size (l : List UInt32) : (uA l).size = l.length := by simp [uA]
theorem uA_one (l : List UInt32) : (uA l).all (·.oneCell') = true := by simp [uA, u, Value.oneCell']
theorem uA_at (l : List UInt32) (j : Nat) (h : j < l.length) : (uA l)[j]? = some (u (l.getD j 0)) := by simp [uA, List.getD_eq_getElem?_getD, h]
theorem uA_set (l : List UInt32) (j : Nat) (x : UInt32) : (uA l).setIfInBounds j (u x) = uA (l.set j x) := by
  apply Array.toList_inj.1
  simp [uA, List.map_set]
theorem size38 (w : World) : (sizeOf 137).run Tryd.prog w = .ok 1 w := by
  obtain ⟨i0, hi, hz0, hz1, hz2⟩ := info_parts info38
  simp [sizeOf, typeInfo, hi, hz1]
theorem idx56 (l : List UInt8) (hl : l.length = 64) (k : Nat) (hk : k < 64) (w : World) : (Instr.index 148 (.agg (bA l)) (.int .i64 (k : Int))).run Tryd.prog w = .ok (bv (l.getD k 0)) w :=
  run_index_arr Tryd.underlying148 (fun _ => Tryd.isAgg5 _) size5 hk (bA_at l k (by omega)) w
theorem idx58 (l : List UInt32) (hl : l.length = 64) (k : Nat) (hk : k < 64) (w : World) : (Instr.index 150 (.agg (uA l)) (.int .i64 (k : Int))).run Tryd.prog w = .ok (u (l.getD k 0)) w :=
  run_index_arr Tryd.underlying150 (fun _ => Tryd.isAgg137 _) size38 hk (uA_at l k (by omega)) w
theorem idx39 (l : List UInt32) (hl : l.length = 8) (k : Nat) (hk : k < 8) (w : World) : (Instr.index 138 (.agg (uA l)) (.int .i64 (k : Int))).run Tryd.prog w = .ok (u (l.getD k 0)) w :=
  run_index_arr Tryd.underlying138 (fun _ => Tryd.isAgg137 _) size38 hk (uA_at l k (by omega)) w
end Go.Proofs.YtaajnjddfcdeaaaDoor
