import Derived.Test.YtkejfdgmdjfdoaaGreatDoorA
import Derived.Deep.AppendSrc
import Derived.Test.YtkejfdgmdjfdoaaGreatDoorPd
import Derived.Deep.WholeRow
import Derived.Test.YtkejfdgmdjfdoaaGreatDoorTail
import Derived.Deep.MidRow
import Derived.Laws.CopyOwn
namespace Go.Proofs.YtkejfdgmdjfdoaaGreatDoor
set_option linter.unusedSimpArgs false
set_option linter.unusedVariables false
set_option maxHeartbeats 8000000
set_option maxRecDepth 100000
section
open Go.RowKit
def padN (l : List UInt8) (j : Nat) : List UInt8 := padZ l (zeros l.length) ++ (be64 (8 * l.length)).take j
theorem padN_len (l : List UInt8) (j : Nat) (h : j ≤ 8) : (padN l j).length = l.length + 1 + zeros l.length + j := by
 unfold padN; rw [List.length_append, padZ_len, List.length_take]; simp [be64]; omega
theorem padN_succ (l : List UInt8) (j : Nat) (h : j < 8) : padN l (j + 1) = padN l j ++ [UInt8.ofNat (8 * l.length / 2 ^ (56 - 8 * j))] := by
 unfold padN
 rw [List.take_add_one, List.append_assoc]
 congr 2
 unfold be64
 rw [List.getElem?_map, List.getElem?_range h]
 rfl
theorem padN_end (l : List UInt8) : padN l 8 = padL l := by
 unfold padN padZ padL
 rw [List.take_of_length_le (by simp [be64])]
 simp
theorem zeros_go (n z : Nat) (h : z < zeros n) : (n + 1 + z) % 64 ≠ 56 := by unfold zeros at h; omega
theorem zeros_end (n : Nat) : (n + 1 + zeros n) % 64 = 56 := by unfold zeros; omega
theorem zeros_lt (n : Nat) : zeros n < 64 := by unfold zeros; omega
theorem pad_c (A : Option Addr) (c : Nat) (l : List UInt8) (w : World) (hA : BA w A l) (hl : l.length ≤ 1000000000) :
  Calls Tryz.prog 131 #[.slice A l.length c] w fun e w' => ∃ v, e = .returned v ∧ OwnB w' w.heap.size v (padL l) ∧ Below w.heap.size w w' := by
 have hB0 : Below w.heap.size w (w.alloc (.cells #[] 5)) := (Below.refl _ _).alloc (Nat.le_refl _) _
 have hO0 : OwnB (w.alloc (.cells #[] 5)) w.heap.size (.slice (some ⟨w.heap.size, 0, none⟩) 0 0) [] := World.ownsRow_made w #[] 0 (Nat.le_refl _) (by unfold maxLen; omega) rfl
 have HA := Lib.hid (hA.below hB0)
 have HB0 := Lib.hid hB0
 have HO0 := Lib.hid hO0
 have hzl := zeros_lt l.length
 clear hA hB0 hO0
 ·go_enter Tryz.func131, Tryz.ntmps131
  go_wp2_with (first | (at_builtin; refine wpList_catB0 rfl _ _ rfl w.heap.size w.heap.size 0 [] rfl (Nat.le_refl _) HO0.out A c l rfl HA.out (by simp; omega) (by simp) ?_; intro v1 w1 hO1 hB1; have HO1 := Lib.hid hO1; have HB1 := Lib.hid (HB0.out.trans hB1); clear hO1 hB1) | (at_builtin; refine wpList_pushB rfl _ _ rfl w.heap.size _ _ rfl (OwnB.below HO1.out ((Below.refl _ _).alloc (Nat.le_refl _) _)) w1.heap.size 128 rfl (by simp; rfl) (by simp; omega) (by have := HB1.out.size; simp; omega) ?_; intro v2 w2 hO2 hB2; have HO2 := Lib.hid hO2; have HB2 := Lib.hid ((HB1.out.alloc HB1.out.size _).trans hB2); clear hO2 hB2))
  go_loopg [3] (zeros l.length) (fun gg out wr => ∃ z : Nat, z ≤ zeros l.length ∧ zeros l.length - z = gg ∧ OwnB wr w.heap.size out (padZ l z) ∧ Below w.heap.size w wr)
  case atStart => exact ⟨0, by omega, by omega, by simpa [padZ] using HO2.out, HB2.out⟩
  case round =>
   obtain ⟨z, hz, rfl, hO, hB⟩ := hrel
   have HO := Lib.hid hO
   have HB := Lib.hid hB
   obtain ⟨A3, c3, rfl⟩ := hO.len
   rw [padZ_len] at HO ⊢
   clear hO hB
   by_cases hlt : z < zeros l.length
   ·have hc := zeros_go l.length z hlt
    have hd : ((((l.length + 1 + z : Nat) : Int) % 64) == 56) = false := by
     rw [beq_eq_false_iff_ne]; omega
    have HC := Lib.hid hc
    clear hc
    go_wp2_with (at_builtin; refine wpList_pushB rfl _ _ rfl w.heap.size _ _ rfl (OwnB.below HO.out ((Below.refl _ _).alloc (Nat.le_refl _) _)) wr.heap.size 0 rfl (by simp; rfl) (by rw [padZ_len]; omega) (by have := HB.out.size; simp; omega) ?_; intro v4 w4 hO4 hB4; have HO4 := Lib.hid hO4; have HB4 := Lib.hid ((HB.out.alloc HB.out.size _).trans hB4); clear hO4 hB4)
    go_roundg (zeros l.length - (z + 1))
    case measure => omega
    case rel => exact ⟨z + 1, by omega, rfl, by rw [padZ_succ]; exact HO4.out, HB4.out⟩
   ·have hzz : z = zeros l.length := by omega
    subst hzz
    have hc := zeros_end l.length
    have hd2 : (((l.length : Int) + 1 + (zeros l.length : Int)) % 64 != 56) = false := by
     rw [bne_eq_false_iff_eq]; omega
    have HO2' : Hid (OwnB wr w.heap.size (.slice A3 (l.length + 1 + zeros l.length) c3) (padN l 0)) := by
     have := HO.out
     show OwnB _ _ _ _
     unfold padN
     rw [List.take_zero, List.append_nil]
     exact this
    clear hc
    go_wp2_with fail
    go_loopg [3, 5] 9 (fun gg out i w5 => ∃ j : Nat, j ≤ 8 ∧ i = .int .i64 (56 - 8 * (j : Int)) ∧ 9 - j = gg ∧ OwnB w5 w.heap.size out (padN l j) ∧ Below w.heap.size w w5)
    case atStart => exact ⟨0, by omega, rfl, rfl, HO2'.out, HB.out⟩
    case round =>
     obtain ⟨j, hj, rfl, rfl, hO5, hB5⟩ := hrel
     have HO5 := Lib.hid hO5
     have HB5 := Lib.hid hB5
     clear hO5 hB5
     by_cases hlt2 : j < 8
     ·obtain ⟨M, hM⟩ : ∃ M, M = 8 * l.length / 2 ^ (56 - 8 * j) := ⟨_, rfl⟩
      have HV : Hid (Value.int .u8 ((l.length : Int) * 8 / 2 ^ (56 - 8 * j) % 256) = bv (UInt8.ofNat M)) := by
       show _ = bv _
       unfold bv
       congr 1
       rw [hM]
       have e : (l.length : Int) * 8 / 2 ^ (56 - 8 * j) = ((8 * l.length / 2 ^ (56 - 8 * j) : Nat) : Int) := by
        rw [show (l.length : Int) * 8 = ((8 * l.length : Nat) : Int) by omega]; simp
       rw [e]
       simp
      have HM := Lib.hid hM
      have p0 : (0 : Int) ≤ 56 - 8 * (j : Int) := by omega
      clear hM
      go_wp2_with (at_builtin; refine wpList_pushB rfl _ _ rfl w.heap.size _ _ rfl (OwnB.below HO5.out ((Below.refl _ _).alloc (Nat.le_refl _) _)) wr.heap.size (UInt8.ofNat M) rfl (by simp; exact HV.out) (by rw [padN_len _ _ hj]; omega) (by have := HB5.out.size; simp; omega) ?_; intro v6 w6 hO6 hB6; have HO6 := Lib.hid hO6; have HB6 := Lib.hid ((HB5.out.alloc HB5.out.size _).trans hB6); clear hO6 hB6)
      go_roundg (9 - (j + 1))
      case measure => omega
      case rel =>
       refine ⟨j + 1, by omega, ?_, rfl, ?_, HB6.out⟩
       ·congr 1; omega
       ·rw [padN_succ l j hlt2, ← HM.out]; exact HO6.out
     ·have hjj : j = 8 := by omega
      subst hjj
      rw [padN_end] at HO5
      go_wp2_with fail
      go_ret
      exact ⟨_, rfl, HO5.out, HB5.out⟩
end
section
open Go.RowKit
attribute [go_sem] u_one
@[go_sem] theorem run_store_u (w : World) (a : Addr) (x : UInt32) (m : Mode) : (store a (u x) m).run Tryz.prog w = stored Tryz.prog w a (u x) m := run_store Tryz.prog w a _ m rfl
noncomputable def stU (w : World) (p v : Value) : Result Next := Sem.run Tryz.prog (do Instr.storeAt 234 p v; pure .skip) w
@[go_sem ↓] theorem execOp_store38 (ρ : Operand → Value) (dst : Option Tmp) (x y : Operand) (type : TypeId) (pos : String) (after : Array Edge) (guard : Option (Nat × Bool)) (w : World) :
  Sem.run Tryz.prog (execOp ρ { dst, op := .store 234 x y, type, pos, after, guard }) w = stU w (ρ x) (ρ y) := rfl
@[go_sem] theorem stU_u (w : World) (g j : Nat) (x : UInt32) : stU w (.pointer (some ⟨g, j, none⟩)) (u x) = ((store ⟨g, j, none⟩ (u x)).run Tryz.prog w).andThen fun _ w' => .ok .skip w' := by
 obtain ⟨i0, hi, hz0, hz1, hz2⟩ := info_parts info38
 have hadd : (⟨g, j, none⟩ : Addr).add 0 = ⟨g, j, none⟩ := by unfold Addr.add; split <;> simp_all
 have hs : (sizeOf 234).run Tryz.prog w = .ok 1 w := by simp [sizeOf, typeInfo, hi, hz1]
 have hc : (u x).cells = #[u x] := rfl
 unfold stU
 simp [Instr.storeAt, Instr.sureAddr, storeVar, hs, hc, storeCells, hadd]
@[go_sem ↓] theorem execOp_load39 (ρ : Operand → Value) (dst : Option Tmp) (x : Operand) (type : TypeId) (pos : String) (after : Array Edge) (guard : Option (Nat × Bool)) (w : World) :
  Sem.run Tryz.prog (execOp ρ { dst, op := .load 235 x, type, pos, after, guard }) w = ldA 235 w (ρ x) := rfl
@[go_sem ↓] theorem execOp_load56 (ρ : Operand → Value) (dst : Option Tmp) (x : Operand) (type : TypeId) (pos : String) (after : Array Edge) (guard : Option (Nat × Bool)) (w : World) :
  Sem.run Tryz.prog (execOp ρ { dst, op := .load 269 x, type, pos, after, guard }) w = ldA 269 w (ρ x) := rfl
@[go_sem ↓] theorem execOp_load58 (ρ : Operand → Value) (dst : Option Tmp) (x : Operand) (type : TypeId) (pos : String) (after : Array Edge) (guard : Option (Nat × Bool)) (w : World) :
  Sem.run Tryz.prog (execOp ρ { dst, op := .load 271 x, type, pos, after, guard }) w = ldA 271 w (ρ x) := rfl
@[go_sem ↓] theorem execOp_store39 (ρ : Operand → Value) (dst : Option Tmp) (x y : Operand) (type : TypeId) (pos : String) (after : Array Edge) (guard : Option (Nat × Bool)) (w : World) :
  Sem.run Tryz.prog (execOp ρ { dst, op := .store 235 x y, type, pos, after, guard }) w = stA 235 w (ρ x) (ρ y) := rfl
@[go_sem ↓] theorem execOp_store49 (ρ : Operand → Value) (dst : Option Tmp) (x y : Operand) (type : TypeId) (pos : String) (after : Array Edge) (guard : Option (Nat × Bool)) (w : World) :
  Sem.run Tryz.prog (execOp ρ { dst, op := .store 247 x y, type, pos, after, guard }) w = stA 247 w (ρ x) (ρ y) := rfl
@[go_sem ↓] theorem execOp_store58 (ρ : Operand → Value) (dst : Option Tmp) (x y : Operand) (type : TypeId) (pos : String) (after : Array Edge) (guard : Option (Nat × Bool)) (w : World) :
  Sem.run Tryz.prog (execOp ρ { dst, op := .store 271 x y, type, pos, after, guard }) w = stA 271 w (ρ x) (ρ y) := rfl
theorem info39 : (Tryz.prog.info? 235).map (·.size) = some 8 := by kernel_rfl
theorem info49 : (Tryz.prog.info? 247).map (·.size) = some 8 := by kernel_rfl
theorem info56 : (Tryz.prog.info? 269).map (·.size) = some 64 := by kernel_rfl
theorem info58 : (Tryz.prog.info? 271).map (·.size) = some 64 := by kernel_rfl
def uA (l : List UInt32) : Array Value := (l.map u).toArray
theorem uA_size (l : List UInt32) : (uA l).size = l.length := by simp [uA]
theorem uA_one (l : List UInt32) : (uA l).all (·.oneCell') = true := by simp [uA, u, Value.oneCell']
theorem uA_at (l : List UInt32) (j : Nat) (h : j < l.length) : (uA l)[j]? = some (u (l.getD j 0)) := by simp [uA, List.getD_eq_getElem?_getD, h]
theorem uA_set (l : List UInt32) (j : Nat) (x : UInt32) : (uA l).setIfInBounds j (u x) = uA (l.set j x) := by
 apply Array.toList_inj.1
 simp [uA, List.map_set]
theorem size38 (w : World) : (sizeOf 234).run Tryz.prog w = .ok 1 w := by
 obtain ⟨i0, hi, hz0, hz1, hz2⟩ := info_parts info38
 simp [sizeOf, typeInfo, hi, hz1]
theorem idx56 (l : List UInt8) (hl : l.length = 64) (k : Nat) (hk : k < 64) (w : World) : (Instr.index 269 (.agg (bA l)) (.int .i64 (k : Int))).run Tryz.prog w = .ok (bv (l.getD k 0)) w :=
 run_index_arr Tryz.underlying269 (fun _ => Tryz.isAgg5 _) size5 hk (bA_at l k (by omega)) w
theorem idx58 (l : List UInt32) (hl : l.length = 64) (k : Nat) (hk : k < 64) (w : World) : (Instr.index 271 (.agg (uA l)) (.int .i64 (k : Int))).run Tryz.prog w = .ok (u (l.getD k 0)) w :=
 run_index_arr Tryz.underlying271 (fun _ => Tryz.isAgg234 _) size38 hk (uA_at l k (by omega)) w
theorem idx39 (l : List UInt32) (hl : l.length = 8) (k : Nat) (hk : k < 8) (w : World) : (Instr.index 235 (.agg (uA l)) (.int .i64 (k : Int))).run Tryz.prog w = .ok (u (l.getD k 0)) w :=
 run_index_arr Tryz.underlying235 (fun _ => Tryz.isAgg234 _) size38 hk (uA_at l k (by omega)) w
end
end Go.Proofs.YtkejfdgmdjfdoaaGreatDoor
