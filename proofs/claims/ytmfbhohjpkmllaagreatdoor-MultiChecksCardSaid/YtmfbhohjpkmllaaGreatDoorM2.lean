import Derived.Test.YtmfbhohjpkmllaaGreatDoorM1
import Derived.Deep.WholeRow
import Derived.Test.YtmfbhohjpkmllaaGreatDoorTG
import Derived.Deep.MidRow
import Derived.Laws.CopyOwn
import Derived.IntWalk
import Derived.Deep.QuietTactic
import Derived.StillTailTactics
import Derived.Laws.MakeOwn
import Derived.Lib.AppendZeros
import Derived.Deep.RegionHeld3
import Derived.Lib.SlBytesConst
namespace Go.Proofs.YtmfbhohjpkmllaaGreatDoor
set_option linter.unusedSimpArgs false
set_option linter.unusedVariables false
set_option maxHeartbeats 16000000
set_option maxRecDepth 100000
section
open Go.RowKit
attribute [go_sem] u_one
@[go_sem] theorem run_store_u (w : World) (a : Addr) (x : UInt32) (m : Mode) : (store a (u x) m).run Tryz.prog w = stored Tryz.prog w a (u x) m := run_store Tryz.prog w a _ m rfl
noncomputable def stU (w : World) (p v : Value) : Result Next := Sem.run Tryz.prog (do Instr.storeAt 156 p v; pure .skip) w
@[go_sem ↓] theorem execOp_store38 (ρ : Operand → Value) (dst : Option Tmp) (x y : Operand) (type : TypeId) (pos : String) (after : Array Edge) (guard : Option (Nat × Bool)) (w : World) :
  Sem.run Tryz.prog (execOp ρ { dst, op := .store 156 x y, type, pos, after, guard }) w = stU w (ρ x) (ρ y) := rfl
@[go_sem] theorem stU_u (w : World) (g j : Nat) (x : UInt32) : stU w (.pointer (some ⟨g, j, none⟩)) (u x) = ((store ⟨g, j, none⟩ (u x)).run Tryz.prog w).andThen fun _ w' => .ok .skip w' := by
 obtain ⟨i0, hi, hz0, hz1, hz2⟩ := info_parts info38
 have hadd : (⟨g, j, none⟩ : Addr).add 0 = ⟨g, j, none⟩ := by unfold Addr.add; split <;> simp_all
 have hs : (sizeOf 156).run Tryz.prog w = .ok 1 w := by simp [sizeOf, typeInfo, hi, hz1]
 have hc : (u x).cells = #[u x] := rfl
 unfold stU
 simp [Instr.storeAt, Instr.sureAddr, storeVar, hs, hc, storeCells, hadd]
@[go_sem ↓] theorem execOp_load39 (ρ : Operand → Value) (dst : Option Tmp) (x : Operand) (type : TypeId) (pos : String) (after : Array Edge) (guard : Option (Nat × Bool)) (w : World) :
  Sem.run Tryz.prog (execOp ρ { dst, op := .load 157 x, type, pos, after, guard }) w = ldA 157 w (ρ x) := rfl
@[go_sem ↓] theorem execOp_load56 (ρ : Operand → Value) (dst : Option Tmp) (x : Operand) (type : TypeId) (pos : String) (after : Array Edge) (guard : Option (Nat × Bool)) (w : World) :
  Sem.run Tryz.prog (execOp ρ { dst, op := .load 186 x, type, pos, after, guard }) w = ldA 186 w (ρ x) := rfl
@[go_sem ↓] theorem execOp_load58 (ρ : Operand → Value) (dst : Option Tmp) (x : Operand) (type : TypeId) (pos : String) (after : Array Edge) (guard : Option (Nat × Bool)) (w : World) :
  Sem.run Tryz.prog (execOp ρ { dst, op := .load 188 x, type, pos, after, guard }) w = ldA 188 w (ρ x) := rfl
@[go_sem ↓] theorem execOp_store39 (ρ : Operand → Value) (dst : Option Tmp) (x y : Operand) (type : TypeId) (pos : String) (after : Array Edge) (guard : Option (Nat × Bool)) (w : World) :
  Sem.run Tryz.prog (execOp ρ { dst, op := .store 157 x y, type, pos, after, guard }) w = stA 157 w (ρ x) (ρ y) := rfl
@[go_sem ↓] theorem execOp_store49 (ρ : Operand → Value) (dst : Option Tmp) (x y : Operand) (type : TypeId) (pos : String) (after : Array Edge) (guard : Option (Nat × Bool)) (w : World) :
  Sem.run Tryz.prog (execOp ρ { dst, op := .store 180 x y, type, pos, after, guard }) w = stA 180 w (ρ x) (ρ y) := rfl
@[go_sem ↓] theorem execOp_store58 (ρ : Operand → Value) (dst : Option Tmp) (x y : Operand) (type : TypeId) (pos : String) (after : Array Edge) (guard : Option (Nat × Bool)) (w : World) :
  Sem.run Tryz.prog (execOp ρ { dst, op := .store 188 x y, type, pos, after, guard }) w = stA 188 w (ρ x) (ρ y) := rfl
theorem info39 : (Tryz.prog.info? 157).map (·.size) = some 8 := by kernel_rfl
theorem info49 : (Tryz.prog.info? 180).map (·.size) = some 8 := by kernel_rfl
theorem info56 : (Tryz.prog.info? 186).map (·.size) = some 64 := by kernel_rfl
theorem info58 : (Tryz.prog.info? 188).map (·.size) = some 64 := by kernel_rfl
def uA (l : List UInt32) : Array Value := (l.map u).toArray
theorem uA_size (l : List UInt32) : (uA l).size = l.length := by simp [uA]
theorem uA_one (l : List UInt32) : (uA l).all (·.oneCell') = true := by simp [uA, u, Value.oneCell']
theorem uA_at (l : List UInt32) (j : Nat) (h : j < l.length) : (uA l)[j]? = some (u (l.getD j 0)) := by simp [uA, List.getD_eq_getElem?_getD, h]
theorem uA_set (l : List UInt32) (j : Nat) (x : UInt32) : (uA l).setIfInBounds j (u x) = uA (l.set j x) := by
 apply Array.toList_inj.1
 simp [uA, List.map_set]
theorem size38 (w : World) : (sizeOf 156).run Tryz.prog w = .ok 1 w := by
 obtain ⟨i0, hi, hz0, hz1, hz2⟩ := info_parts info38
 simp [sizeOf, typeInfo, hi, hz1]
theorem idx56 (l : List UInt8) (hl : l.length = 64) (k : Nat) (hk : k < 64) (w : World) : (Instr.index 186 (.agg (bA l)) (.int .i64 (k : Int))).run Tryz.prog w = .ok (bv (l.getD k 0)) w :=
 run_index_arr Tryz.underlying186 (fun _ => Tryz.isAgg5 _) size5 hk (bA_at l k (by omega)) w
theorem idx58 (l : List UInt32) (hl : l.length = 64) (k : Nat) (hk : k < 64) (w : World) : (Instr.index 188 (.agg (uA l)) (.int .i64 (k : Int))).run Tryz.prog w = .ok (u (l.getD k 0)) w :=
 run_index_arr Tryz.underlying188 (fun _ => Tryz.isAgg156 _) size38 hk (uA_at l k (by omega)) w
theorem idx39 (l : List UInt32) (hl : l.length = 8) (k : Nat) (hk : k < 8) (w : World) : (Instr.index 157 (.agg (uA l)) (.int .i64 (k : Int))).run Tryz.prog w = .ok (u (l.getD k 0)) w :=
 run_index_arr Tryz.underlying157 (fun _ => Tryz.isAgg156 _) size38 hk (uA_at l k (by omega)) w
end
section
open Go.RowKit
theorem ret_u {a b : UInt32} (h : a = b) : Ending.returned (u a) = .returned (u b) := by rw [h]
def ovr (cs : Array Value) (o n : Nat) (f : Nat → Value) (lo : Nat) : Array Value := cs.mapIdx fun j v => if o + lo ≤ j ∧ j < o + n then f (j - o) else v
theorem ovr_size (cs : Array Value) (o n : Nat) (f : Nat → Value) (lo : Nat) : (ovr cs o n f lo).size = cs.size := by simp [ovr]
theorem ovr_none (cs : Array Value) (o n : Nat) (f : Nat → Value) : ovr cs o n f n = cs := by
 apply Array.ext_getElem?
 intro i
 simp only [ovr, Array.getElem?_mapIdx]
 cases h : cs[i]? with
 | none => rfl
 | some v => simp only [Option.map_some]; rw [if_neg (by omega)]
theorem ovr_set (cs : Array Value) (o n : Nat) (f : Nat → Value) (lo : Nat) (h : lo < n) : (ovr cs o n f (lo + 1)).setIfInBounds (o + lo) (f lo) = ovr cs o n f lo := by
 apply Array.ext_getElem?
 intro i
 rw [Array.getElem?_setIfInBounds, ovr_size]
 simp only [ovr, Array.getElem?_mapIdx]
 by_cases e : o + lo = i
 ·subst e
  by_cases hl : o + lo < cs.size
  ·simp [hl, h]
  ·simp [hl]
 ·rw [if_neg e]
  cases hv : cs[i]? with
  | none => rfl
  | some v =>
   simp only [Option.map_some]
   by_cases hc : o + lo ≤ i ∧ i < o + n
   ·rw [if_pos (by omega), if_pos hc]
   ·rw [if_neg (by omega), if_neg hc]
theorem ovr_at (cs : Array Value) (o n : Nat) (f : Nat → Value) (lo j : Nat) (h : o + lo ≤ j) (h2 : j < o + n) (h3 : j < cs.size) : (ovr cs o n f lo)[j]? = some (f (j - o)) := by
 simp [ovr, h3, h, h2]
theorem ovr_other (cs : Array Value) (o n : Nat) (f : Nat → Value) (lo j : Nat) (h : ¬ (o + lo ≤ j ∧ j < o + n)) : (ovr cs o n f lo)[j]? = cs[j]? := by
 simp only [ovr, Array.getElem?_mapIdx]
 cases hv : cs[j]? with
 | none => rfl
 | some v => simp only [Option.map_some]; rw [if_neg h]
def pb (n X j : Nat) : Value := bv (UInt8.ofNat (X / 2 ^ (8 * (n - 1 - j))))
theorem put_c (g o n c X : Nat) (cs : Array Value) (T : TypeId) (w : World) (hg : w.heap[g]? = some (.cells cs T (0, 0))) (hn : n ≤ 8) (hs : o + n ≤ cs.size) :
  Calls Tryz.prog 127 #[.slice (some ⟨g, o, none⟩) n c, .int .u64 (X : Int)] w fun e w' => e = .returned (.tuple #[]) ∧ w' = w.setRow g (ovr cs o n (pb n X) 0) := by
 have HG := Lib.hid hg
 have H0 : Hid (w = w.setRow g (ovr cs o n (pb n X) (n - 0))) := by
  show w = _
  rw [Nat.sub_zero, ovr_none, setRow_self w g cs T _ hg]
 clear hg
 go_enter Tryz.func127, Tryz.ntmps127
 go_wp2
 go_loopg [7] n (fun gg i wr => ∃ k : Nat, i = .int .i64 k ∧ k ≤ n ∧ n - k = gg ∧ Hid (wr = w.setRow g (ovr cs o n (pb n X) (n - k))))
 case atStart => exact ⟨0, rfl, by omega, by omega, H0⟩
 case round =>
  obtain ⟨k, rfl, hk, rfl, hW⟩ := hrel
  by_cases hlt : k < n
  ·have hrow : wr.heap[g]? = some (.cells (ovr cs o n (pb n X) (n - k)) T (0, 0)) := by rw [hW.out]; exact setRow_heap w g cs _ T _ HG.out
   have hcell : wr.cell? ⟨g, o + (n - 1 - k), none⟩ = some ((ovr cs o n (pb n X) (n - k))[o + (n - 1 - k)]'(by rw [ovr_size]; omega)) := by
    rw [cell_of_cells hrow]; exact Array.getElem?_eq_getElem _
   have hfz : wr.frozen? ⟨g, o + (n - 1 - k), none⟩ = false := frozen_of_row wr g _ _ _ hrow
   obtain ⟨old, hold⟩ : ∃ v, v = (ovr cs o n (pb n X) (n - k))[o + (n - 1 - k)]'(by rw [ovr_size]; omega) := ⟨_, rfl⟩
   rw [← hold] at hcell
   have HN : Hid (wr.setCell ⟨g, o + (n - 1 - k), none⟩ (pb n X (n - 1 - k)) = w.setRow g (ovr cs o n (pb n X) (n - (k + 1)))) := by
    show _ = _
    rw [setCell_eq_setRow wr g _ _ T (0, 0) _ hrow, hW.out, setRow_setRow, show n - (k + 1) = n - 1 - k by omega, ← ovr_set cs o n (pb n X) (n - 1 - k) (by omega), show n - 1 - k + 1 = n - k by omega]
   clear hold hrow
   have HV : Hid (pb n X (n - 1 - k) = .int .u8 ((X : Int) / 2 ^ (8 * k) % 256)) := by
    show _ = _
    rw [pb, show n - 1 - (n - 1 - k) = k by omega, bv]
    congr 1
   have w1 : IntKind.i64.wrap ((n : Int) - 1) = (n : Int) - 1 := IntWalk.i64_in _ (by omega)
   have w2 : IntKind.i64.wrap ((n : Int) - 1 - (k : Int)) = (n : Int) - 1 - (k : Int) := IntWalk.i64_in _ (by omega)
   have w3 : IntKind.i64.wrap (8 * (k : Int)) = 8 * (k : Int) := IntWalk.i64_in _ (by omega)
   have p2 : (0 : Int) ≤ (n : Int) - 1 - (k : Int) := by omega
   have q2 : (n : Int) - 1 - (k : Int) < (n : Int) := by omega
   have n2 : ((n : Int) - 1 - (k : Int)).toNat = n - 1 - k := by omega
   go_wp2_with fail
   go_roundg (n - (k + 1))
   case measure => omega
   case rel => exact ⟨k + 1, by go_num, by omega, rfl, by rw [← HV.out]; exact HN⟩
  ·obtain rfl : k = n := by omega
   go_wp2_with fail
   go_end0
   exact ⟨rfl, by have := hW.out; rw [Nat.sub_self] at this; exact this⟩
theorem and31 (n : Fin 32) (h : 0 < n.val) : bits BinOp.and IntKind.u64 (IntKind.u64.wrap (-(n.val : Int))) 31 = ((32 - n.val : Nat) : Int) := by
 revert n; decide +kernel
theorem rotl_c (x : UInt32) (n : Nat) (h : 0 < n) (h2 : n < 32) (w : World) : Calls Tryz.prog 128 #[u x, .int .i64 (-(n : Int))] w fun e w' => e = .returned (u (rotr x n)) ∧ w' = w := by
 have hb := and31 ⟨n, h2⟩ h
 obtain ⟨m, hm⟩ : ∃ m, m = 32 - n := ⟨_, rfl⟩
 have hr : rotr x n = (x <<< UInt32.ofNat m) ||| (x >>> UInt32.ofNat n) := by rw [hm, rotr, UInt32.or_comm]
 have HR := Lib.hid hr
 simp only [← hm] at hb
 have a3 := fun w => shl_u x m (by omega) w
 have a4 : ∀ w, (binOp .shr 156 (u x) (.int .u64 (32 - (m : Int)))).run Tryz.prog w = .ok (u (x >>> UInt32.ofNat n)) w := fun w => by
  rw [show (32 - (m : Int)) = (n : Int) by omega]; exact shr_u x n h2 w
 have b1 : 0 < m := by omega
 have b2 : m < 32 := by omega
 clear hr hm
 go_enter Tryz.func128, Tryz.ntmps128
 go_wp2
 go_ret
 exact ⟨ret_u HR.out.symm, rfl⟩
theorem right_c (x : UInt32) (n : Nat) (h : 0 < n) (h2 : n < 32) (w : World) : Calls Tryz.prog 125 #[u x, .int .i64 (n : Int)] w fun e w' => e = .returned (u (rotr x n)) ∧ w' = w := by
 go_enter Tryz.func125, Tryz.ntmps125
 go_wp2_with (go_at_call 128; refine (rotl_c x n h h2 _).mono ?_; rintro e w' ⟨rfl, rfl⟩)
 go_ret
 exact ⟨rfl, rfl⟩
theorem right_any (x : UInt32) (n : Int) (h : 0 < n ∧ n < 32) (w : World) : Calls Tryz.prog 125 #[u x, .int .i64 n] w fun e w' => e = .returned (u (rotrI x n)) ∧ w' = w := by
 have := right_c x n.toNat (by omega) (by omega) w
 rwa [show ((n.toNat : Nat) : Int) = n by omega] at this
def blocksI (n : Int) : Int := if n < 0 ∨ 1152921504606846976 < n then 0 else (n + 72) / 64
theorem blocks_c (n : Int) (w : World) (h1 : -9223372036854775808 ≤ n) (h2 : n ≤ 9223372036854775807) : Calls Tryz.prog 126 #[.int .i64 n] w fun e w' => e = .returned (.int .i64 (blocksI n)) ∧ w = w' := by
 by_cases a : n < 0
 ·have hb : Hid (blocksI n = 0) := if_pos (.inl a)
  have hd : decide (n < 0) = true := decide_eq_true a
  go_enter Tryz.func126, Tryz.ntmps126
  go_wp2
  go_ret
  exact ⟨ret_int (by rw [hb.out]), rfl⟩
 ·have hd : decide (n < 0) = false := decide_eq_false a
  by_cases b : 1152921504606846976 < n
  ·have hb : Hid (blocksI n = 0) := if_pos (.inr b)
   have hd2 : decide (1152921504606846976 < n) = true := decide_eq_true b
   go_enter Tryz.func126, Tryz.ntmps126
   go_wp2
   go_ret
   exact ⟨ret_int (by rw [hb.out]), rfl⟩
  ·have hb : Hid (blocksI n = (n + 72) / 64) := if_neg (by omega)
   have hd2 : decide (1152921504606846976 < n) = false := decide_eq_false b
   have p0 : 0 ≤ n := by omega
   have p1 : n ≤ 1152921504606846976 := by omega
   go_enter Tryz.func126, Tryz.ntmps126
   go_wp2
   go_ret
   exact ⟨ret_int (by rw [hb.out]; omega), rfl⟩
end
section
open Go.RowKit
def z58 : List UInt32 := List.replicate 64 0
theorem zero58 : ∀ w, (zeroValue 188).run Tryz.prog w = .ok (.agg (uA z58)) w := fun _ => by kernel_rfl
attribute [go_sem ↓] zero58
def wl (b : Nat → UInt8) (n : Nat) : List UInt32 := (List.range 64).map (accw b n)
theorem wl_len (b : Nat → UInt8) (n : Nat) : (wl b n).length = 64 := by simp [wl]
theorem wl_at (b : Nat → UInt8) (n t : Nat) (h : t < 64) : (wl b n).getD t 0 = accw b n t := by simp [wl, List.getD_eq_getElem?_getD, h]
theorem wl_zero (b : Nat → UInt8) : wl b 0 = z58 := by
 unfold wl z58
 apply List.ext_getElem?
 intro i
 rcases Nat.lt_or_ge i 64 with h | h
 ·rw [List.getElem?_replicate, if_pos h, List.getElem?_map, List.getElem?_range h, Option.map_some, accw_zero]
 ·rw [List.getElem?_eq_none (by simpa using h), List.getElem?_eq_none (by simpa using h)]
theorem wl_step (b : Nat → UInt8) (n : Nat) (h : n < 64) : (wl b n).set (n / 4) ((accw b n (n / 4) <<< 8) ||| (b n).toUInt32) = wl b (n + 1) := by
 apply List.ext_getElem?
 intro i
 rw [List.getElem?_set]
 by_cases e : n / 4 = i
 ·subst e
  simp [wl, show n / 4 < 64 by omega, accw_here]
 ·rw [if_neg e]
  rcases Nat.lt_or_ge i 64 with h2 | h2
  ·simp [wl, h2, accw_other b n i (fun x => e x.symm)]
  ·rw [List.getElem?_eq_none (by simpa [wl] using h2), List.getElem?_eq_none (by simpa [wl] using h2)]
def sl (b : Nat → UInt8) (i : Nat) : List UInt32 := (List.range 64).map fun t => if t < i then sw b t else 0
theorem sl_len (b : Nat → UInt8) (n : Nat) : (sl b n).length = 64 := by simp [sl]
theorem sl_at (b : Nat → UInt8) (n t : Nat) (h : t < 64) (h2 : t < n) : (sl b n).getD t 0 = sw b t := by simp [sl, List.getD_eq_getElem?_getD, h, h2]
theorem sl_start (b : Nat → UInt8) : wl b 64 = sl b 16 := by
 unfold wl sl
 refine List.map_congr_left fun t ht => ?_
 have : t < 64 := by simpa using ht
 by_cases h : t < 16
 ·rw [if_pos h, accw_end b t h, sw_word b t h]
 ·rw [if_neg h, accw, show min 4 (64 - 4 * t) = 0 by omega, acc]
theorem sl_step (b : Nat → UInt8) (i : Nat) (h : i < 64) : (sl b i).set i (sw b i) = sl b (i + 1) := by
 apply List.ext_getElem?
 intro t
 rw [List.getElem?_set]
 by_cases e : i = t
 ·subst e
  simp [sl, h]
 ·rw [if_neg e]
  rcases Nat.lt_or_ge t 64 with h2 | h2
  ·simp only [sl, List.getElem?_map, List.getElem?_range h2, Option.map_some]
   by_cases h3 : t < i
   ·rw [if_pos h3, if_pos (by omega)]
   ·rw [if_neg h3, if_neg (by omega)]
  ·rw [List.getElem?_eq_none (by simpa [sl] using h2), List.getElem?_eq_none (by simpa [sl] using h2)]
theorem sl_end (b : Nat → UInt8) : sl b 64 = sched b := by
 apply List.ext_getElem?
 intro t
 rcases Nat.lt_or_ge t 64 with h2 | h2
 ·simp [sl, h2, sw, sched_len]
 ·rw [List.getElem?_eq_none (by simpa [sl] using h2), List.getElem?_eq_none (by rw [sched_len]; exact h2)]
@[go_sem high] theorem conv_bu (x : UInt8) (w : World) : (convert 5 156 (bv x)).run Tryz.prog w = .ok (u x.toUInt32) w := conv_u x w
theorem psched_f (l : List UInt8) (f : Nat → UInt8) (w : World) (hl : l.length = 64) (HF : Hid (∀ k, f k = l.getD k 0)) :
  Calls Tryz.prog 124 #[.agg (bA l)] w fun e w' => e = .returned (.agg (uA (sched f))) ∧ Below w.heap.size w w' := by
 have HL := Lib.hid hl
 have ld0 : ldA 186 (((w.alloc (.cells (bA l) 186)).alloc (.cells (uA z58) 188)).alloc (.cells (uA z58) 188)) (.pointer (some ⟨w.heap.size, 0, none⟩)) = .ok (.value (.agg (bA l))) (((w.alloc (.cells (bA l) 186)).alloc (.cells (uA z58) 188)).alloc (.cells (uA z58) 188)) :=
  ldA_row (t' := 186) (fr := (0, 0)) (by rw [Below.heap_alloc _ _ _ (by simp; omega), Below.heap_alloc _ _ _ (by simp)]; exact heap_alloc_new w _) Tryz.underlying186 (by rw [bA_size, hl]; exact info56)
 clear hl
 go_enter Tryz.func124, Tryz.ntmps124
 go_wp2_with fail
 clear ld0
 have hB3 : Below w.heap.size w (((w.alloc (.cells (bA l) 186)).alloc (.cells (uA z58) 188)).alloc (.cells (uA z58) 188)) := (((Below.refl _ _).alloc (Nat.le_refl _) _).alloc (by simp) _).alloc (by simp; omega) _
 have hr1 : (((w.alloc (.cells (bA l) 186)).alloc (.cells (uA z58) 188)).alloc (.cells (uA z58) 188)).heap[w.heap.size + 1]? = some (.cells (uA z58) 188 (0, 0)) := by
  rw [Below.heap_alloc _ _ _ (by simp)]
  have := heap_alloc_new (w.alloc (.cells (bA l) 186)) (.cells (uA z58) 188)
  rwa [show (w.alloc (.cells (bA l) 186)).heap.size = w.heap.size + 1 by simp] at this
 have hr2 : (((w.alloc (.cells (bA l) 186)).alloc (.cells (uA z58) 188)).alloc (.cells (uA z58) 188)).heap[w.heap.size + 1 + 1]? = some (.cells (uA (wl f 0)) 188 (0, 0)) := by
  rw [wl_zero]
  have := heap_alloc_new ((w.alloc (.cells (bA l) 186)).alloc (.cells (uA z58) 188)) (.cells (uA z58) 188)
  rwa [show ((w.alloc (.cells (bA l) 186)).alloc (.cells (uA z58) 188)).heap.size = w.heap.size + 1 + 1 by simp] at this
 have HB3 := Lib.hid hB3
 have HR1 := Lib.hid hr1
 have HR2 := Lib.hid hr2
 clear hB3 hr1 hr2
 go_loopg [12] 64 (fun gg i wr => ∃ k : Nat, i = .int .i64 k ∧ k ≤ 64 ∧ 64 - k = gg ∧ wr.heap[w.heap.size + 1 + 1]? = some (.cells (uA (wl f k)) 188 (0, 0)) ∧ wr.heap[w.heap.size + 1]? = some (.cells (uA z58) 188 (0, 0)) ∧ Below w.heap.size w wr)
 case atStart => exact ⟨0, rfl, by omega, by omega, HR2.out, HR1.out, HB3.out⟩
 case round =>
  obtain ⟨k, rfl, hk, rfl, hrow, hres, hB⟩ := hrel
  by_cases hlt : k < 64
  ·have hcell : wr.cell? ⟨w.heap.size + 1 + 1, k / 4, none⟩ = some (u (accw f k (k / 4))) := by
    rw [cell_of_cells hrow, uA_at _ _ (by rw [wl_len]; omega), wl_at _ _ _ (by omega)]
   have hfz : wr.frozen? ⟨w.heap.size + 1 + 1, k / 4, none⟩ = false := frozen_of_row wr _ _ _ _ hrow
   have hix : ∀ w, (Instr.index 186 (.agg (bA l)) (.int .i64 (k : Int))).run Tryz.prog w = .ok (bv (f k)) w := fun w => by rw [HF.out]; exact idx56 l HL.out k hlt w
   obtain ⟨x, hx⟩ : ∃ x, x = f k := ⟨_, rfl⟩
   obtain ⟨y, hy⟩ : ∃ y, y = accw f k (k / 4) := ⟨_, rfl⟩
   rw [← hx] at hix
   rw [← hy] at hcell
   have HN : Hid ((wr.setCell ⟨w.heap.size + 1 + 1, k / 4, none⟩ (u (y <<< 8 ||| x.toUInt32))).heap[w.heap.size + 1 + 1]? = some (.cells (uA (wl f (k + 1))) 188 (0, 0))) := by
    show _ = _
    rw [set_row hrow, uA_set, hx, hy, wl_step f k hlt]
   have HM : Hid ((wr.setCell ⟨w.heap.size + 1 + 1, k / 4, none⟩ (u (y <<< 8 ||| x.toUInt32))).heap[w.heap.size + 1]? = some (.cells (uA z58) 188 (0, 0))) := set_keep hres (by omega)
   have HB := Lib.hid (hB.setCell (p := ⟨w.heap.size + 1 + 1, k / 4, none⟩) (by show w.heap.size ≤ w.heap.size + 1 + 1; omega) (u (y <<< 8 ||| x.toUInt32)))
   clear hx hy hrow hres hB
   have p2 : (0 : Int) ≤ (k : Int) / 4 := by omega
   have q2 : (k : Int) / 4 < 64 := by omega
   have n2 : ((k : Int) / 4).toNat = k / 4 := by omega
   go_wp2_with fail
   go_roundg (64 - (k + 1))
   case measure => omega
   case rel => exact ⟨k + 1, by go_num, by omega, rfl, HN.out, HM.out, HB.out⟩
  ·obtain rfl : k = 64 := by omega
   rw [sl_start] at hrow
   have HN := Lib.hid hrow
   have HM := Lib.hid hres
   have HB := Lib.hid hB
   clear hrow hres hB
   go_wp2_with fail
   go_loopg [6] 48 (fun gg i wr => ∃ k : Nat, i = .int .i64 k ∧ 16 ≤ k ∧ k ≤ 64 ∧ 64 - k = gg ∧ wr.heap[w.heap.size + 1 + 1]? = some (.cells (uA (sl f k)) 188 (0, 0)) ∧ wr.heap[w.heap.size + 1]? = some (.cells (uA z58) 188 (0, 0)) ∧ Below w.heap.size w wr)
   case atStart => exact ⟨16, rfl, by omega, by omega, by omega, HN.out, HM.out, HB.out⟩
   case round =>
    clear HN HM HB
    obtain ⟨k, rfl, hk1, hk2, rfl, hrow, hres, hB⟩ := hrel
    by_cases hlt : k < 64
    ·have HR := Lib.hid hrow
     have HS := Lib.hid hres
     have HB := Lib.hid hB
     clear hrow hres hB
     have cell : ∀ (v : World), v.heap = wr.heap → ∀ d, 0 < d → d < 17 → v.cell? ⟨w.heap.size + 1 + 1, k - d, none⟩ = some (u (sw f (k - d))) := fun v hv d h1 h2 => by
      rw [cell_of_cells (by rw [hv]; exact HR.out), uA_at _ _ (by rw [sl_len]; omega), sl_at _ _ _ (by omega) (by omega)]
     have c15 := cell wr rfl 15 (by decide) (by decide)
     have c2 := cell wr rfl 2 (by decide) (by decide)
     obtain ⟨X16, h16⟩ : ∃ x, x = sw f (k - 16) := ⟨_, rfl⟩
     obtain ⟨X15, h15⟩ : ∃ x, x = sw f (k - 15) := ⟨_, rfl⟩
     obtain ⟨X7, h7⟩ : ∃ x, x = sw f (k - 7) := ⟨_, rfl⟩
     obtain ⟨X2, h2⟩ : ∃ x, x = sw f (k - 2) := ⟨_, rfl⟩
     have HX : Hid (sw f k = X16 + (rotrI X15 7 ^^^ rotrI X15 18 ^^^ X15 >>> 3) + X7 + (rotrI X2 17 ^^^ rotrI X2 19 ^^^ X2 >>> 10)) := by
      show _ = _
      rw [sw_step f k hk1 hlt, h16, h15, h7, h2]; rfl
     rw [← h15] at c15
     rw [← h2] at c2
     have HC := Lib.hid cell
     have H16 := Lib.hid h16
     have H7 := Lib.hid h7
     clear cell h16 h15 h7 h2
     have hd : decide ((k : Int) < 64) = true := by rw [decide_eq_true_eq]; omega
     have w15 : IntKind.i64.wrap ((k : Int) - 15) = (k : Int) - 15 := IntWalk.i64_in _ (by omega)
     have p15 : (0 : Int) ≤ (k : Int) - 15 := by omega
     have q15 : (k : Int) - 15 < 64 := by omega
     have n15 : ((k : Int) - 15).toNat = k - 15 := by omega
     have w2 : IntKind.i64.wrap ((k : Int) - 2) = (k : Int) - 2 := IntWalk.i64_in _ (by omega)
     have p2 : (0 : Int) ≤ (k : Int) - 2 := by omega
     have q2 : (k : Int) - 2 < 64 := by omega
     have n2 : ((k : Int) - 2).toNat = k - 2 := by omega
     go_wp2_with fail
     refine wp_region_quiet_lit (by kernel_rfl) (by kernel_rfl) ?_
     repeat (go_big_quiet_step (fail))
     refine wpQuiet_nil ?_
     rintro _ ⟨nq, rfl⟩
     clear c15 c2
     go_wp2_with (go_at_call 125; (first | (with_reducible refine (right_any _ 7 (by decide) _).mono ?_) | (with_reducible refine (right_any _ 18 (by decide) _).mono ?_) | (with_reducible refine (right_any _ 17 (by decide) _).mono ?_) | (with_reducible refine (right_any _ 19 (by decide) _).mono ?_)); rintro e w' ⟨rfl, rfl⟩)
     have hrq : (wr.drewN nq).heap[w.heap.size + 1 + 1]? = some (.cells (uA (sl f k)) 188 (0, 0)) := HR.out
     have hsq : (wr.drewN nq).heap[w.heap.size + 1]? = some (.cells (uA z58) 188 (0, 0)) := HS.out
     have hbq : Below w.heap.size w (wr.drewN nq) := below_drewN HB.out nq
     have c16 := HC.out (wr.drewN nq) rfl 16 (by decide) (by decide)
     have c7 := HC.out (wr.drewN nq) rfl 7 (by decide) (by decide)
     obtain ⟨wq, hwq⟩ : ∃ wq, wq = wr.drewN nq := ⟨_, rfl⟩
     rw [← hwq] at hrq hsq hbq c16 c7 ⊢
     rw [← H16.out] at c16
     rw [← H7.out] at c7
     clear hwq
     have HN : Hid ((wq.setCell ⟨w.heap.size + 1 + 1, k, none⟩ (u (X16 + (rotrI X15 7 ^^^ rotrI X15 18 ^^^ X15 >>> 3) + X7 + (rotrI X2 17 ^^^ rotrI X2 19 ^^^ X2 >>> 10)))).heap[w.heap.size + 1 + 1]? = some (.cells (uA (sl f (k + 1))) 188 (0, 0))) := by
      show _ = _
      rw [set_row hrq, uA_set, ← HX.out, sl_step f k hlt]
     have HM : Hid ((wq.setCell ⟨w.heap.size + 1 + 1, k, none⟩ (u (X16 + (rotrI X15 7 ^^^ rotrI X15 18 ^^^ X15 >>> 3) + X7 + (rotrI X2 17 ^^^ rotrI X2 19 ^^^ X2 >>> 10)))).heap[w.heap.size + 1]? = some (.cells (uA z58) 188 (0, 0))) := set_keep hsq (by omega)
     have HB2 := Lib.hid (hbq.setCell (p := ⟨w.heap.size + 1 + 1, k, none⟩) (by show w.heap.size ≤ w.heap.size + 1 + 1; omega) (u (X16 + (rotrI X15 7 ^^^ rotrI X15 18 ^^^ X15 >>> 3) + X7 + (rotrI X2 17 ^^^ rotrI X2 19 ^^^ X2 >>> 10))))
     have ck : wq.cell? ⟨w.heap.size + 1 + 1, k, none⟩ = some (u ((sl f k).getD k 0)) := by rw [cell_of_cells hrq, uA_at _ _ (by rw [sl_len]; omega)]
     obtain ⟨old, hold⟩ : ∃ x, x = (sl f k).getD k 0 := ⟨_, rfl⟩
     rw [← hold] at ck
     have fk : wq.frozen? ⟨w.heap.size + 1 + 1, k, none⟩ = false := frozen_of_row wq _ _ _ _ hrq
     clear hrq hsq hbq hold w15 p15 q15 n15 w2 p2 q2 n2
     have w16 : IntKind.i64.wrap ((k : Int) - 16) = (k : Int) - 16 := IntWalk.i64_in _ (by omega)
     have p16 : (0 : Int) ≤ (k : Int) - 16 := by omega
     have q16 : (k : Int) - 16 < 64 := by omega
     have n16 : ((k : Int) - 16).toNat = k - 16 := by omega
     have w7 : IntKind.i64.wrap ((k : Int) - 7) = (k : Int) - 7 := IntWalk.i64_in _ (by omega)
     have p7 : (0 : Int) ≤ (k : Int) - 7 := by omega
     have q7 : (k : Int) - 7 < 64 := by omega
     have n7 : ((k : Int) - 7).toNat = k - 7 := by omega
     have pk : (0 : Int) ≤ (k : Int) := by omega
     have qk : (k : Int) < 64 := by omega
     refine wp_region_drawn_tail 15 (by kernel_rfl) (by kernel_rfl) ?_
     simp only [List.take_succ_cons, List.take_zero, List.drop_succ_cons, List.drop_zero]
     repeat (go_big_quiet_step (fail))
     refine wpQuiet_nil ?_
     rintro _ ⟨nq2, rfl⟩
     clear w16 w7
     go_wp2_with fail
     go_roundg (64 - (k + 1))
     case measure => omega
     case rel => exact ⟨k + 1, by go_num, by omega, by omega, rfl, HN.out, HM.out, below_drewN HB2.out nq2⟩
    ·obtain rfl : k = 64 := by omega
     rw [sl_end] at hrow
     have ld1 : ldA 188 wr (.pointer (some ⟨w.heap.size + 1 + 1, 0, none⟩)) = .ok (.value (.agg (uA (sched f)))) wr := ldA_row hrow Tryz.underlying188 (by rw [uA_size, sched_len]; exact info58)
     have st1 : stA 188 wr (.pointer (some ⟨w.heap.size + 1, 0, none⟩)) (.agg (uA (sched f))) = .ok .skip (wr.setRow (w.heap.size + 1) (uA (sched f))) := stA_row hres (by rw [uA_size, sched_len]; exact info58) (by rw [uA_size, uA_size, sched_len]; rfl) (uA_one _)
     have HM := Lib.hid (setRow_heap wr (w.heap.size + 1) _ (uA (sched f)) _ _ hres)
     have HB := Lib.hid (below_setRow hB (show w.heap.size ≤ w.heap.size + 1 by omega) (uA (sched f)))
     clear hrow hres hB
     go_wp2_with fail
     refine bodyPost_ret (v := .agg (uA (sched f))) ?_ rfl ⟨rfl, HB.out⟩
     exact results_cell_row Tryz.results124 _ _ (w.heap.size + 1) 188 _ (0, 0) _ rfl HM.out Tryz.underlying188 rfl (by rw [uA_size, sched_len]; exact info58)
end
section
open Go.RowKit
def z39 : List UInt32 := List.replicate 8 0
theorem zero39 : ∀ w, (zeroValue 157).run Tryz.prog w = .ok (.agg (uA z39)) w := fun _ => by kernel_rfl
attribute [go_sem ↓] zero39
theorem s8_len (s : S8) : s.list.length = 8 := rfl
theorem uS_size (s : S8) : (uA s.list).size = 8 := rfl
@[go_sem ↓] theorem execOp_build39 (ρ : Operand → Value) (dst : Option Tmp) (parts : Array (Nat × Operand)) (type : TypeId) (pos : String) (after : Array Edge) (guard : Option (Nat × Bool)) (w : World) :
  Sem.run Tryz.prog (execOp ρ { dst, op := .build 157 parts, type, pos, after, guard }) w = bldA 157 w (parts.map fun x => (x.1, ρ x.2)) := rfl
@[go_sem ↓] theorem execOp_build49 (ρ : Operand → Value) (dst : Option Tmp) (parts : Array (Nat × Operand)) (type : TypeId) (pos : String) (after : Array Edge) (guard : Option (Nat × Bool)) (w : World) :
  Sem.run Tryz.prog (execOp ρ { dst, op := .build 180 parts, type, pos, after, guard }) w = bldA 180 w (parts.map fun x => (x.1, ρ x.2)) := rfl
theorem bld39 (w : World) (s : S8) : bldA 157 w #[(0, u s.a), (1, u s.b), (2, u s.c), (3, u s.d), (4, u s.e), (5, u s.f), (6, u s.g), (7, u s.h)] = .ok (.value (.agg (uA s.list))) w := by kernel_rfl
def addl (s x : S8) (i : Nat) : List UInt32 := (List.range 8).map fun j => if j < i then s.list.getD j 0 + x.list.getD j 0 else s.list.getD j 0
theorem addl_len (s x : S8) (i : Nat) : (addl s x i).length = 8 := by simp [addl]
theorem addl_end (s x : S8) : addl s x 8 = (s.add x).list := rfl
theorem addl_at (s x : S8) (i : Nat) (h : i < 8) : (addl s x i).getD i 0 = s.list.getD i 0 := by simp [addl, List.getD_eq_getElem?_getD, h]
theorem addl_step (s x : S8) (i : Nat) (h : i < 8) : (addl s x i).set i (s.list.getD i 0 + x.list.getD i 0) = addl s x (i + 1) := by
 apply List.ext_getElem?
 intro t
 rw [List.getElem?_set]
 by_cases e : i = t
 ·subst e
  rw [if_pos rfl, addl_len, if_pos h]
  simp only [addl, List.getElem?_map, List.getElem?_range h, Option.map_some]
  rw [if_pos (by omega)]
 ·rw [if_neg e]
  rcases Nat.lt_or_ge t 8 with h2 | h2
  ·simp only [addl, List.getElem?_map, List.getElem?_range h2, Option.map_some]
   by_cases h3 : t < i
   ·rw [if_pos h3, if_pos (by omega)]
   ·rw [if_neg h3, if_neg (by omega)]
  ·rw [List.getElem?_eq_none (by simpa [addl] using h2), List.getElem?_eq_none (by simpa [addl] using h2)]
def KT (w : World) : Prop := ∀ j, j < 64 → w.cell? ⟨1, j, none⟩ = some (u (kTab.getD j 0))
theorem KT.keep {L : Nat → Prop} {a b : World} (h : KT a) (k : Keep L a b) (h1 : ¬ L 1) : KT b := fun j hj => k.cellAt (h j hj) h1
theorem add_f (sb : Nat) (s : S8) (l : List UInt8) (f : Nat → UInt8) (w : World) (hl : l.length = 64) (HF : Hid (f = fun k => l.getD k 0)) (hs : w.heap[sb]? = some (.cells (uA s.list) 180 (0, 0))) (hk : KT w) :
  Calls Tryz.prog 119 #[.pointer (some ⟨sb, 0, none⟩), .agg (bA l)] w fun e w' => e = .returned (.tuple #[]) ∧ w'.heap[sb]? = some (.cells (uA (blk s f).list) 180 (0, 0)) ∧ Keep (fun i => i = sb) w w' := by
 have HL := Lib.hid hl
 have HS := Lib.hid hs
 have HK := Lib.hid hk
 have ld0 : ∀ ob, ldA 157 (w.alloc ob) (.pointer (some ⟨sb, 0, none⟩)) = .ok (.value (.agg (uA s.list))) (w.alloc ob) := fun ob =>
  ldA_row (t' := 180) (fr := (0, 0)) (by rw [Below.heap_alloc _ _ _ (lt_of_heap HS.out)]; exact HS.out) Tryz.underlying157 (by rw [uS_size]; exact info39)
 have st0 := fun ob => stA_two w ob (uA z39) (uA s.list) (t := 157) (by rw [uS_size]; exact info39) rfl (uA_one _)
 clear hl hs hk
 go_enter Tryz.func119, Tryz.ntmps119
 go_wp2_with fail
 have hW0 : ((w.alloc (.cells (bA l) 186)).alloc (.cells (uA s.list) 157)).heap[w.heap.size]? = some (.cells (bA l) 186 (0, 0)) := by
  rw [Below.heap_alloc _ _ _ (by simp)]; exact heap_alloc_new w _
 have hW1 : ((w.alloc (.cells (bA l) 186)).alloc (.cells (uA s.list) 157)).heap[w.heap.size + 1]? = some (.cells (uA s.list) 157 (0, 0)) := by
  have := heap_alloc_new (w.alloc (.cells (bA l) 186)) (.cells (uA s.list) 157)
  rwa [show (w.alloc (.cells (bA l) 186)).heap.size = w.heap.size + 1 by simp] at this
 have hKp : Keep (fun i => i = sb) w ((w.alloc (.cells (bA l) 186)).alloc (.cells (uA s.list) 157)) := ((Keep.refl _ w).alloc _).alloc _
 have hSb : ((w.alloc (.cells (bA l) 186)).alloc (.cells (uA s.list) 157)).heap[sb]? = some (.cells (uA s.list) 180 (0, 0)) := by
  have := lt_of_heap HS.out
  rw [Below.heap_alloc _ _ _ (by simp; omega), Below.heap_alloc _ _ _ this]; exact HS.out
 have hKT : KT ((w.alloc (.cells (bA l) 186)).alloc (.cells (uA s.list) 157)) := HK.out.keep (((Keep.refl (fun _ => False) w).alloc _).alloc _) (fun h => h)
 obtain ⟨wv, hwv⟩ : ∃ wv, wv = (w.alloc (.cells (bA l) 186)).alloc (.cells (uA s.list) 157) := ⟨_, rfl⟩
 rw [← hwv] at hW0 hW1 hKp hSb hKT ⊢
 have c0 : wv.cell? ⟨w.heap.size + 1, 0, none⟩ = some (u s.a) := by rw [cell_of_cells hW1]; rfl
 have c1 : wv.cell? ⟨w.heap.size + 1, 1, none⟩ = some (u s.b) := by rw [cell_of_cells hW1]; rfl
 have c2 : wv.cell? ⟨w.heap.size + 1, 2, none⟩ = some (u s.c) := by rw [cell_of_cells hW1]; rfl
 have c3 : wv.cell? ⟨w.heap.size + 1, 3, none⟩ = some (u s.d) := by rw [cell_of_cells hW1]; rfl
 have c4 : wv.cell? ⟨w.heap.size + 1, 4, none⟩ = some (u s.e) := by rw [cell_of_cells hW1]; rfl
 have c5 : wv.cell? ⟨w.heap.size + 1, 5, none⟩ = some (u s.f) := by rw [cell_of_cells hW1]; rfl
 have c6 : wv.cell? ⟨w.heap.size + 1, 6, none⟩ = some (u s.g) := by rw [cell_of_cells hW1]; rfl
 have c7 : wv.cell? ⟨w.heap.size + 1, 7, none⟩ = some (u s.h) := by rw [cell_of_cells hW1]; rfl
 have H0 := Lib.hid hW0
 have HKp := Lib.hid hKp
 have HSb := Lib.hid hSb
 have HKT := Lib.hid hKT
 clear hwv hW0 hW1 hKp hSb hKT ld0 st0 HS HK
 refine wp_region_quiet_lit (by kernel_rfl) (by kernel_rfl) ?_
 repeat (go_big_quiet_step (fail))
 refine wpQuiet_nil ?_
 rintro _ ⟨nq, rfl⟩
 clear c0 c1 c2 c3 c4 c5 c6 c7
 have hD : Drawn wv (wv.drewN nq) := (Drawn.refl wv).drewN nq
 obtain ⟨wq, hwq⟩ : ∃ wq, wq = wv.drewN nq := ⟨_, rfl⟩
 rw [← hwq] at hD ⊢
 have ld1 : ldA 186 wq (.pointer (some ⟨w.heap.size, 0, none⟩)) = .ok (.value (.agg (bA l))) wq := ldA_row (t' := 186) (fr := (0, 0)) (by rw [hD.heap]; exact H0.out) Tryz.underlying186 (by rw [bA_size, HL.out]; exact info56)
 have HD := Lib.hid hD
 clear hwq hD
 go_wp2_with fail
 refine (psched_f l f wq HL.out (by show ∀ k, f k = _; rw [HF.out]; exact fun _ => rfl)).mono ?_
 rintro e w5 ⟨rfl, hb5⟩
 have HSb5 : Hid (w5.heap[sb]? = some (.cells (uA s.list) 180 (0, 0))) := by
  show _ = _
  rw [hb5.block sb (by rw [HD.out.heap]; exact lt_of_heap HSb.out), HD.out.heap]; exact HSb.out
 have HKp5 : Hid (Keep (fun i => i = sb) w w5) := (HKp.out.trans (HD.out.keep _)).trans (Keep.of_below hb5)
 have HKT5 : Hid (KT w5) := (HKT.out.keep (HD.out.keep (fun _ => False)) (fun h => h)).keep (Keep.of_below (L := fun _ => False) hb5) (fun h => h)
 obtain ⟨Wl, hWl⟩ : ∃ Wl, Wl = sched f := ⟨_, rfl⟩
 rw [← hWl]
 have HWl := Lib.hid hWl
 have HWll : Hid (Wl.length = 64) := by show _ = _; rw [hWl, sched_len]
 clear hb5 hWl ld1 HD H0 HKp HSb HKT
 go_wp2_with fail
 go_loopg [5, 6, 7, 8, 9, 10, 11, 12, 41] 64 (fun gg a b c d e f' g h i wr => ∃ t : Nat, i = .int .i64 t ∧ t ≤ 64 ∧ 64 - t = gg ∧ a = u (rounds s Wl t).a ∧ b = u (rounds s Wl t).b ∧ c = u (rounds s Wl t).c ∧ d = u (rounds s Wl t).d ∧ e = u (rounds s Wl t).e ∧ f' = u (rounds s Wl t).f ∧ g = u (rounds s Wl t).g ∧ h = u (rounds s Wl t).h ∧ Drawn w5 wr)
 case atStart => exact ⟨0, rfl, by omega, by omega, rfl, rfl, rfl, rfl, rfl, rfl, rfl, rfl, Drawn.refl _⟩
 case round =>
  obtain ⟨t, rfl, ht, rfl, rfl, rfl, rfl, rfl, rfl, rfl, rfl, rfl, hD⟩ := hrel
  obtain ⟨R, hR⟩ : ∃ R, R = rounds s Wl t := ⟨_, rfl⟩
  rw [← hR]
  have HR := Lib.hid hR
  have HD := Lib.hid hD
  clear hR hD
  by_cases htl : t < 64
  ·have hd : decide ((t : Int) < 64) = true := by rw [decide_eq_true_eq]; omega
   have hix := fun w => idx58 Wl HWll.out t htl w
   have hkt : wr.cell? ⟨1, t, none⟩ = some (u (kTab.getD t 0)) := by rw [HD.out.cell]; exact HKT5.out t htl
   obtain ⟨KK, hKK⟩ : ∃ x, x = kTab.getD t 0 := ⟨_, rfl⟩
   obtain ⟨WW, hWW⟩ : ∃ x, x = Wl.getD t 0 := ⟨_, rfl⟩
   have HRn : Hid (rounds s Wl (t + 1) = R.rnd KK WW) := by show _ = _; rw [rounds, HR.out, hKK, hWW]
   rw [← hKK] at hkt
   simp only [← hWW] at hix
   have p1 : (0 : Int) ≤ (t : Int) := by omega
   have p2 : (t : Int) < 64 := by omega
   clear hKK hWW
   go_wp2_with fail
   refine wp_region_quiet_lit (by kernel_rfl) (by kernel_rfl) ?_
   iterate 2 (go_big_quiet_step (fail))
   go_big_quiet_step ((go_at_call 125; exact Calls.quiet_of_same (right_any _ 6 (by decide) _)))
   iterate 1 (go_big_quiet_step (fail))
   go_big_quiet_step ((go_at_call 125; exact Calls.quiet_of_same (right_any _ 11 (by decide) _)))
   iterate 2 (go_big_quiet_step (fail))
   go_big_quiet_step ((go_at_call 125; exact Calls.quiet_of_same (right_any _ 25 (by decide) _)))
   repeat (go_big_quiet_step (fail))
   refine wpQuiet_nil ?_
   rintro _ ⟨nq2, rfl⟩
   have HD2 : Hid (Drawn w5 (wr.drewN nq2)) := HD.out.drewN nq2
   clear hkt hix p1 p2
   go_wp2_with (go_at_call 125; (first | (with_reducible refine (right_any _ 2 (by decide) _).mono ?_) | (with_reducible refine (right_any _ 13 (by decide) _).mono ?_) | (with_reducible refine (right_any _ 22 (by decide) _).mono ?_)); rintro e w' ⟨rfl, rfl⟩)
   go_roundg (64 - (t + 1))
   case measure => omega
   case rel => exact ⟨t + 1, by go_num, by omega, rfl, by rw [HRn.out]; rfl, by rw [HRn.out]; rfl, by rw [HRn.out]; rfl, by rw [HRn.out]; rfl, by rw [HRn.out]; rfl, by rw [HRn.out]; rfl, by rw [HRn.out]; rfl, by rw [HRn.out]; rfl, HD2.out⟩
  ·obtain rfl : t = 64 := by omega
   have hB : Hid ((s.add R) = blk s f) := by show _ = _; rw [blk, HR.out, HWl.out]
   have hrow : wr.heap[sb]? = some (.cells (uA (addl s R 0)) 180 (0, 0)) := by rw [HD.out.heap]; exact HSb5.out
   have hkp : Keep (fun i => i = sb) w wr := HKp5.out.trans (HD.out.keep _)
   have hbl := fun w => bld39 w R
   have HRow := Lib.hid hrow
   have HKeep := Lib.hid hkp
   clear hrow hkp HSb5 HKp5
   go_wp2_with fail
   clear hbl
   go_loopg [112] 8 (fun gg i wz => ∃ k : Nat, i = .int .i64 k ∧ k ≤ 8 ∧ 8 - k = gg ∧ wz.heap[sb]? = some (.cells (uA (addl s R k)) 180 (0, 0)) ∧ Keep (fun i => i = sb) w wz)
   case atStart => exact ⟨0, rfl, by omega, by omega, HRow.out, HKeep.out⟩
   case round =>
    obtain ⟨k, rfl, hk, rfl, hrow, hkp⟩ := hrel
    by_cases hlt : k < 8
    ·have hd : decide ((k : Int) < 8) = true := by rw [decide_eq_true_eq]; omega
     have hix := fun w => idx39 R.list rfl k hlt w
     have hc : wr.cell? ⟨sb, k, none⟩ = some (u (s.list.getD k 0)) := by rw [cell_of_cells hrow, uA_at _ _ (by rw [addl_len]; omega), addl_at _ _ _ hlt]
     have hf : wr.frozen? ⟨sb, k, none⟩ = false := frozen_of_row wr _ _ _ _ hrow
     obtain ⟨XX, hXX⟩ : ∃ x, x = R.list.getD k 0 := ⟨_, rfl⟩
     obtain ⟨SS, hSS⟩ : ∃ x, x = s.list.getD k 0 := ⟨_, rfl⟩
     have HN : Hid ((wr.setCell ⟨sb, k, none⟩ (u (SS + XX))).heap[sb]? = some (.cells (uA (addl s R (k + 1))) 180 (0, 0))) := by
      show _ = _
      rw [set_row hrow, uA_set, hSS, hXX, addl_step s R k hlt]
     have HM : Hid (Keep (fun i => i = sb) w (wr.setCell ⟨sb, k, none⟩ (u (SS + XX)))) := hkp.step (Keep.cell _ _ _) fun i hi => .inl hi
     rw [← hSS] at hc
     simp only [← hXX] at hix
     have p1 : (0 : Int) ≤ (k : Int) := by omega
     have p2 : (k : Int) < 8 := by omega
     clear hXX hSS hrow hkp
     go_wp2_with fail
     refine wp_region_drawn_tail 11 (by kernel_rfl) (by kernel_rfl) ?_
     simp only [List.take_succ_cons, List.take_zero, List.drop_succ_cons, List.drop_zero]
     repeat (go_big_quiet_step (fail))
     refine wpQuiet_nil ?_
     rintro _ ⟨nq3, rfl⟩
     go_wp2_with fail
     go_roundg (8 - (k + 1))
     case measure => omega
     case rel => exact ⟨k + 1, by go_num, by omega, rfl, HN.out, HM.out.drewN nq3⟩
    ·obtain rfl : k = 8 := by omega
     rw [addl_end, hB.out] at hrow
     have HN := Lib.hid hrow
     have HM := Lib.hid hkp
     clear hrow hkp
     go_wp2_with fail
     go_end0
     exact ⟨rfl, HN.out, HM.out⟩
theorem add_c (sb : Nat) (s : S8) (l : List UInt8) (w : World) (hl : l.length = 64) (hs : w.heap[sb]? = some (.cells (uA s.list) 180 (0, 0))) (hk : KT w) :
  Calls Tryz.prog 119 #[.pointer (some ⟨sb, 0, none⟩), .agg (bA l)] w fun e w' => e = .returned (.tuple #[]) ∧ w'.heap[sb]? = some (.cells (uA (blk s fun t => l.getD t 0).list) 180 (0, 0)) ∧ Keep (fun i => i = sb) w w' :=
 add_f sb s l _ w hl (show _ = _ from rfl) hs hk
end
section
open Go.RowKit
@[go_sem high] theorem conv_u64 (x : UInt32) (w : World) : (convert 156 174 (u x)).run Tryz.prog w = .ok (.int .u64 (x.toNat : Int)) w := by
 have := lt32 x
 have e : IntKind.u64.wrap (x.toNat : Int) = x.toNat := by
  unfold IntKind.wrap
  rw [show (2 : Int) ^ IntKind.u64.bits = 18446744073709551616 from rfl, show IntKind.u64.signed = false from rfl]
  simp; omega
 unfold u; simp [go_sem, e]
theorem len56 : Tryz.prog.arrayLen 186 = 64 := by kernel_rfl
theorem elem56 : Tryz.prog.elem 186 = 5 := by kernel_rfl
theorem sl56 (g l : Nat) (hlt : l < 64) (L : Int) (eL : L = l) (w : World) :
  (Instr.sliceAt 186 (.pointer (some ⟨g, 0, none⟩)) (some (.int .i64 L)) none none).run Tryz.prog w = .ok (.slice (some ⟨g, l, none⟩) (64 - l) (64 - l)) w := by
 subst eL
 rw [run_sliceAt_array_l w 186 _ (by rw [len56, elem56]; exact Tryz.underlying186) .i64 _ (by omega) (by rw [len56]; omega), elem56, size5, len56]
 have hadd : (⟨g, 0, none⟩ : Addr).add l = ⟨g, l, none⟩ := by unfold Addr.add; split <;> simp_all
 simp [slicedAt, hadd, show ¬ 64 = l by omega]
theorem outB_at (s : S8) (k j : Nat) (hk : k < 8) (hj : j < 4) : (outB s).getD (4 * k + j) 0 = UInt8.ofNat ((s.list.getD k 0).toNat / 2 ^ (8 * (4 - 1 - j))) := by
 have h8 : k = 0 ∨ k = 1 ∨ k = 2 ∨ k = 3 ∨ k = 4 ∨ k = 5 ∨ k = 6 ∨ k = 7 := by omega
 have h4 : j = 0 ∨ j = 1 ∨ j = 2 ∨ j = 3 := by omega
 rcases h8 with rfl | rfl | rfl | rfl | rfl | rfl | rfl | rfl <;> (rcases h4 with rfl | rfl | rfl | rfl <;> rfl)
def outp (s : S8) (k : Nat) : List UInt8 := (List.range 32).map fun j => if j < 4 * k then (outB s).getD j 0 else 0
theorem outp_len (s : S8) (k : Nat) : (outp s k).length = 32 := by simp [outp]
theorem outp_zero (s : S8) : outp s 0 = z26 := by
 unfold outp z26
 apply List.ext_getElem?
 intro i
 rcases Nat.lt_or_ge i 32 with h | h
 ·rw [List.getElem?_replicate, if_pos h, List.getElem?_map, List.getElem?_range h, Option.map_some, if_neg (by omega)]
 ·rw [List.getElem?_eq_none (by simpa using h), List.getElem?_eq_none (by simpa using h)]
theorem outp_end (s : S8) : outp s 8 = outB s := by
 apply List.ext_getElem?
 intro i
 rcases Nat.lt_or_ge i 32 with h | h
 ·have := outB_len s
  simp [outp, h, List.getD_eq_getElem?_getD, show i < (outB s).length by omega]
 ·rw [List.getElem?_eq_none (by simpa [outp] using h), List.getElem?_eq_none (by rw [outB_len]; exact h)]
theorem outp_step (s : S8) (k : Nat) (hk : k < 8) : ovr (bA (outp s k)) (4 * k) 4 (pb 4 (s.list.getD k 0).toNat) 0 = bA (outp s (k + 1)) := by
 apply Array.ext_getElem?
 intro i
 by_cases h : 4 * k + 0 ≤ i ∧ i < 4 * k + 4
 ·rw [ovr_at _ _ _ _ _ _ h.1 h.2 (by rw [bA_size, outp_len]; omega), bA_at _ _ (by rw [outp_len]; omega)]
  have e := outB_at s k (i - 4 * k) hk (by omega)
  rw [show 4 * k + (i - 4 * k) = i by omega] at e
  simp only [outp, List.getD_eq_getElem?_getD, List.getElem?_map, List.getElem?_range (show i < 32 by omega), Option.map_some, Option.getD_some]
  rw [List.getD_eq_getElem?_getD] at e
  rw [if_pos (by omega), e]
  rfl
 ·rw [ovr_other _ _ _ _ _ _ h]
  rcases Nat.lt_or_ge i 32 with h2 | h2
  ·rw [bA_at _ _ (by rw [outp_len]; exact h2), bA_at _ _ (by rw [outp_len]; exact h2)]
   simp only [outp, List.getD_eq_getElem?_getD, List.getElem?_map, List.getElem?_range h2, Option.map_some, Option.getD_some]
   by_cases h3 : i < 4 * k
   ·rw [if_pos h3, if_pos (by omega)]
   ·rw [if_neg h3, if_neg (by omega)]
  ·rw [Array.getElem?_eq_none (by rw [bA_size, outp_len]; exact h2), Array.getElem?_eq_none (by rw [bA_size, outp_len]; exact h2)]
theorem digest_c (sb : Nat) (s : S8) (w : World) (hs : w.heap[sb]? = some (.cells (uA s.list) 180 (0, 0))) :
  Calls Tryz.prog 121 #[.pointer (some ⟨sb, 0, none⟩)] w fun e w' => e = .returned (.agg (bA (outB s))) ∧ Below w.heap.size w w' := by
 have ld0 : ∀ o1 o2, ldA 157 ((w.alloc o1).alloc o2) (.pointer (some ⟨sb, 0, none⟩)) = .ok (.value (.agg (uA s.list))) ((w.alloc o1).alloc o2) := fun o1 o2 =>
  ldA_row (t' := 180) (fr := (0, 0)) (by have := lt_of_heap hs; rw [Below.heap_alloc _ _ _ (by simp; omega), Below.heap_alloc _ _ _ this]; exact hs) Tryz.underlying157 (by rw [uS_size]; exact info39)
 clear hs
 go_enter Tryz.func121, Tryz.ntmps121
 go_wp2_with fail
 have hr1 : ((w.alloc (.cells (bA z26) 45)).alloc (.cells (bA z26) 45)).heap[w.heap.size]? = some (.cells (bA z26) 45 (0, 0)) := by
  rw [Below.heap_alloc _ _ _ (by simp)]; exact heap_alloc_new w _
 have hr2 : ((w.alloc (.cells (bA z26) 45)).alloc (.cells (bA z26) 45)).heap[w.heap.size + 1]? = some (.cells (bA (outp s 0)) 45 (0, 0)) := by
  rw [outp_zero]
  have := heap_alloc_new (w.alloc (.cells (bA z26) 45)) (.cells (bA z26) 45)
  rwa [show (w.alloc (.cells (bA z26) 45)).heap.size = w.heap.size + 1 by simp] at this
 have hB : Below w.heap.size w ((w.alloc (.cells (bA z26) 45)).alloc (.cells (bA z26) 45)) := ((Below.refl _ _).alloc (Nat.le_refl _) _).alloc (by simp) _
 have H1 := Lib.hid hr1
 have H2 := Lib.hid hr2
 have HB := Lib.hid hB
 clear hr1 hr2 hB ld0
 go_loopg [10] 8 (fun gg i wr => ∃ k : Nat, i = .int .i64 k ∧ k ≤ 8 ∧ 8 - k = gg ∧ wr.heap[w.heap.size]? = some (.cells (bA z26) 45 (0, 0)) ∧ wr.heap[w.heap.size + 1]? = some (.cells (bA (outp s k)) 45 (0, 0)) ∧ Below w.heap.size w wr)
 case atStart => exact ⟨0, rfl, by omega, by omega, H1.out, H2.out, HB.out⟩
 case round =>
  clear H1 H2 HB
  obtain ⟨k, rfl, hk, rfl, hr1, hr2, hB⟩ := hrel
  by_cases hlt : k < 8
  ·have hd : decide ((k : Int) < 8) = true := by rw [decide_eq_true_eq]; omega
   have hix := fun w => idx39 s.list rfl k hlt w
   have hstep := outp_step s k hlt
   obtain ⟨X, hX⟩ : ∃ X, X = s.list.getD k 0 := ⟨_, rfl⟩
   rw [← hX] at hstep
   simp only [← hX] at hix
   have H1 := Lib.hid hr1
   have H2 := Lib.hid hr2
   have HB := Lib.hid hB
   have HS := Lib.hid hstep
   clear hX hr1 hr2 hB hstep
   have w1 : IntKind.i64.wrap (4 * (k : Int)) = 4 * (k : Int) := IntWalk.i64_in _ (by omega)
   have w2 : IntKind.i64.wrap ((k : Int) + 1) = (k : Int) + 1 := IntWalk.i64_in _ (by omega)
   have w3 : IntKind.i64.wrap (4 * ((k : Int) + 1)) = 4 * ((k : Int) + 1) := IntWalk.i64_in _ (by omega)
   have hsl : ∀ v, (Instr.sliceAt 45 (.pointer (some ⟨w.heap.size + 1, 0, none⟩)) (some (.int .i64 (4 * (k : Int)))) (some (.int .i64 (4 * ((k : Int) + 1)))) none).run Tryz.prog v = .ok (.slice (some ⟨w.heap.size + 1, 4 * k, none⟩) 4 (32 - 4 * k)) v := fun v => by
    have := sl26 (w.heap.size + 1) (4 * k) (4 * k + 4) (by omega) (by omega) (by omega) (4 * (k : Int)) (4 * ((k : Int) + 1)) (by omega) (by omega) v
    rwa [show 4 * k + 4 - 4 * k = 4 by omega] at this
   go_wp2_with fail
   refine (put_c (w.heap.size + 1) (4 * k) 4 (32 - 4 * k) X.toNat (bA (outp s k)) 45 wr H2.out (by decide) (by rw [bA_size, outp_len]; omega)).mono ?_
   rintro e w5 ⟨rfl, rfl⟩
   rw [HS.out]
   have HN := Lib.hid (setRow_heap wr (w.heap.size + 1) _ (bA (outp s (k + 1))) _ _ H2.out)
   have HM : Hid ((wr.setRow (w.heap.size + 1) (bA (outp s (k + 1)))).heap[w.heap.size]? = some (.cells (bA z26) 45 (0, 0))) := by
    show _ = _
    rw [setRow_other _ _ _ _ (by omega)]; exact H1.out
   have HB2 := Lib.hid (below_setRow HB.out (show w.heap.size ≤ w.heap.size + 1 by omega) (bA (outp s (k + 1))))
   clear hsl w1 w2 w3
   go_wp2_with fail
   go_roundg (8 - (k + 1))
   case measure => omega
   case rel => exact ⟨k + 1, by go_num, by omega, rfl, HM.out, HN.out, HB2.out⟩
  ·obtain rfl : k = 8 := by omega
   rw [outp_end] at hr2
   have ld1 : ldA 45 wr (.pointer (some ⟨w.heap.size + 1, 0, none⟩)) = .ok (.value (.agg (bA (outB s)))) wr := ldA_row hr2 Tryz.underlying45 (by rw [bA_size, outB_len]; exact info26)
   have st1 : stA 45 wr (.pointer (some ⟨w.heap.size, 0, none⟩)) (.agg (bA (outB s))) = .ok .skip (wr.setRow w.heap.size (bA (outB s))) := stA_row hr1 (by rw [bA_size, outB_len]; exact info26) (by rw [bA_size, bA_size, outB_len]; rfl) (bA_one _)
   have HM := Lib.hid (setRow_heap wr w.heap.size _ (bA (outB s)) _ _ hr1)
   have HB := Lib.hid (below_setRow hB (Nat.le_refl w.heap.size) (bA (outB s)))
   clear hr1 hr2 hB
   go_wp2_with fail
   refine bodyPost_ret (v := .agg (bA (outB s))) ?_ rfl ⟨rfl, HB.out⟩
   exact results_cell_row Tryz.results121 _ _ w.heap.size 45 _ (0, 0) _ rfl HM.out Tryz.underlying45 rfl (by rw [bA_size, outB_len]; exact info26)
end
section
open Go.RowKit
def z56 : List UInt8 := List.replicate 64 0
theorem zero56 : ∀ w, (zeroValue 186).run Tryz.prog w = .ok (.agg (bA z56)) w := fun _ => by kernel_rfl
attribute [go_sem ↓] zero56
def addV (sb : Nat) : Value := .func (.func 119) #[.pointer (some ⟨sb, 0, none⟩)] #[]
theorem inBlocks_c (sb : Nat) (w : World) : Calls Tryz.prog 118 #[addV sb] w fun e w' =>
  e = .returned (.func (.func 123) #[] #[.pointer (some ⟨w.heap.size + 1, 0, none⟩), .pointer (some ⟨w.heap.size + 1 + 1, 0, none⟩), .pointer (some ⟨w.heap.size, 0, none⟩)]) ∧
   w' = ((w.alloc (.cells #[addV sb] 183)).alloc (.cells (bA z56) 186)).alloc (.cells #[.int .i64 0] 3) := by
 have hmf : ∀ (fn : Fn) (first cap : Array Value) (w : World), (Instr.makeFunc fn first cap).run Tryz.prog w = .ok (.func fn first cap) w := fun _ _ _ _ => rfl
 unfold addV
 go_enter Tryz.func118, Tryz.ntmps118
 go_wp2
 go_ret
 exact ⟨rfl, rfl⟩
structure Str (w : World) (pA pB pF sb : Nat) (T : List UInt8) : Prop where
 fn : w.heap[pA]? = some (.cells #[addV sb] 183 (0, 0))
 blk : ∃ l : List UInt8, l.length = 64 ∧ l.take (T.length % 64) = left T ∧ w.heap[pB]? = some (.cells (bA l) 186 (0, 0))
 fill : w.heap[pF]? = some (.cells #[.int .i64 ((T.length % 64 : Nat) : Int)] 3 (0, 0))
 st : w.heap[sb]? = some (.cells (uA (stOf T).list) 180 (0, 0))
 kt : KT w
structure Four (pA pB pF sb : Nat) : Prop where
 n1 : pA ≠ pB
 n2 : pA ≠ pF
 n3 : pA ≠ sb
 n4 : pB ≠ pF
 n5 : pB ≠ sb
 n6 : pF ≠ sb
 k1 : 1 ≠ pB
 k2 : 1 ≠ pF
 k3 : 1 ≠ sb
def Wr (pB pF sb : Nat) (i : Nat) : Prop := i = pB ∨ i = pF ∨ i = sb
theorem Str.keep {L : Nat → Prop} {a b : World} {pA pB pF sb : Nat} {T : List UInt8} (h : Str a pA pB pF sb T) (k : Keep L a b) (h1 : ¬ L pA) (h2 : ¬ L pB) (h3 : ¬ L pF) (h4 : ¬ L sb) (h5 : ¬ L 1) : Str b pA pB pF sb T := by
 obtain ⟨l, e1, e2, e3⟩ := h.blk
 exact ⟨k.heap h.fn h1, ⟨l, e1, e2, k.heap e3 h2⟩, k.heap h.fill h3, k.heap h.st h4, h.kt.keep k h5⟩
theorem stream_step (T d r : List UInt8) (lb : List UInt8) (n : Nat) (hl : lb.length = 64) (hlb : lb.take ((T ++ d).length % 64) = left (T ++ d)) (hn : n ≤ r.length) (hf : (T ++ d).length % 64 + n ≤ 64) :
  (lb.take ((T ++ d).length % 64) ++ (r.take n ++ lb.drop ((T ++ d).length % 64 + n))).length = 64 ∧
  ((T ++ d).length % 64 + n < 64 → (T ++ (d ++ r.take n)).length % 64 = (T ++ d).length % 64 + n ∧ stOf (T ++ (d ++ r.take n)) = stOf (T ++ d) ∧ (lb.take ((T ++ d).length % 64) ++ (r.take n ++ lb.drop ((T ++ d).length % 64 + n))).take ((T ++ d).length % 64 + n) = left (T ++ (d ++ r.take n))) ∧
  ((T ++ d).length % 64 + n = 64 → (T ++ (d ++ r.take n)).length % 64 = 0 ∧ stOf (T ++ (d ++ r.take n)) = blk (stOf (T ++ d)) (fun t => (lb.take ((T ++ d).length % 64) ++ (r.take n ++ lb.drop ((T ++ d).length % 64 + n))).getD t 0) ∧ left (T ++ (d ++ r.take n)) = []) := by
 have hrl : (r.take n).length = n := by rw [List.length_take]; omega
 have e0 : T ++ (d ++ r.take n) = (T ++ d) ++ r.take n := by simp
 obtain ⟨U, hU⟩ : ∃ U, U = T ++ d := ⟨_, rfl⟩
 rw [e0, ← hU]
 rw [← hU] at hlb hf
 have hul := left_len U
 refine ⟨by simp only [List.length_append, List.length_take, List.length_drop]; omega, fun h => ?_, fun h => ?_⟩
 ·obtain ⟨s1, s2⟩ := st_part U (r.take n) (by omega)
  refine ⟨by rw [List.length_append, hrl]; omega, s1, ?_⟩
  rw [s2, hlb, ← List.append_assoc]
  exact List.take_left' (by rw [List.length_append, hul, hrl])
 ·obtain ⟨s1, s2⟩ := st_full U (r.take n) (by omega)
  refine ⟨by rw [List.length_append, hrl]; omega, ?_, s2⟩
  rw [s1, hlb, h, List.drop_of_length_le (by omega : lb.length ≤ 64), List.append_nil]
theorem after_part {pA pB pF sb : Nat} {T d m : List UInt8} {lb2 : List UInt8} {f n : Nat} {wr wc : World} (h4 : Four pA pB pF sb) (hS : Str wr pA pB pF sb (T ++ d)) (hwc : wc = wr.setRow pB (bA lb2)) (h64 : lb2.length = 64)
  (h1 : (T ++ (d ++ m)).length % 64 = f + n) (h2 : stOf (T ++ (d ++ m)) = stOf (T ++ d)) (h3 : lb2.take (f + n) = left (T ++ (d ++ m))) :
  Str (wc.setCell ⟨pF, 0, none⟩ (.int .i64 ((f : Int) + (n : Int)))) pA pB pF sb (T ++ (d ++ m)) ∧ Keep (Wr pB pF sb) wr (wc.setCell ⟨pF, 0, none⟩ (.int .i64 ((f : Int) + (n : Int)))) := by
 have k1 : Keep (fun i => i = pB) wr wc := by rw [hwc]; exact Keep.row _ _ _
 have k2 := Keep.cell wc ⟨pF, 0, none⟩ (.int .i64 ((f : Int) + (n : Int)))
 have kk : Keep (Wr pB pF sb) wr (wc.setCell ⟨pF, 0, none⟩ (.int .i64 ((f : Int) + (n : Int)))) := (k1.mono fun i hi => .inl hi).trans (k2.mono fun i hi => .inr (.inl hi))
 obtain ⟨lb, e1, e2, e3⟩ := hS.blk
 refine ⟨⟨k2.heap (k1.heap hS.fn h4.n1) h4.n2, ⟨lb2, h64, by rw [h1]; exact h3, ?_⟩, ?_, ?_, ?_⟩, kk⟩
 ·refine k2.heap ?_ h4.n4
  rw [hwc]; exact setRow_heap wr pB _ _ _ _ e3
 ·rw [h1]
  have := one_set (y := .int .i64 ((f : Int) + (n : Int))) (k1.heap hS.fill (Ne.symm h4.n4))
  rw [this]
  simp
 ·rw [h2]; exact k2.heap (k1.heap hS.st (Ne.symm h4.n5)) (Ne.symm h4.n6)
 ·exact (hS.kt.keep k1 h4.k1).keep k2 h4.k2
theorem after_full {pA pB pF sb : Nat} {T d m : List UInt8} {lb2 : List UInt8} {x : Value} {wr wc w6 : World} (h4 : Four pA pB pF sb) (hS : Str wr pA pB pF sb (T ++ d)) (hwc : wc = wr.setRow pB (bA lb2)) (h64 : lb2.length = 64)
  (h1 : (T ++ (d ++ m)).length % 64 = 0) (h3 : left (T ++ (d ++ m)) = []) (hs6 : w6.heap[sb]? = some (.cells (uA (stOf (T ++ (d ++ m))).list) 180 (0, 0))) (hk6 : Keep (fun i => i = sb) (wc.setCell ⟨pF, 0, none⟩ x) w6) :
  Str (w6.setCell ⟨pF, 0, none⟩ (.int .i64 0)) pA pB pF sb (T ++ (d ++ m)) ∧ Keep (Wr pB pF sb) wr (w6.setCell ⟨pF, 0, none⟩ (.int .i64 0)) := by
 have k1 : Keep (fun i => i = pB) wr wc := by rw [hwc]; exact Keep.row _ _ _
 have k2 := Keep.cell wc ⟨pF, 0, none⟩ x
 have k3 := Keep.cell w6 ⟨pF, 0, none⟩ (.int .i64 0)
 obtain ⟨lb, e1, e2, e3⟩ := hS.blk
 refine ⟨⟨k3.heap (hk6.heap (k2.heap (k1.heap hS.fn h4.n1) h4.n2) h4.n3) h4.n2, ⟨lb2, h64, by rw [h1, h3]; rfl, ?_⟩, ?_, k3.heap hs6 (Ne.symm h4.n6), ?_⟩, ?_⟩
 ·refine k3.heap (hk6.heap (k2.heap ?_ h4.n4) h4.n5) h4.n4
  rw [hwc]; exact setRow_heap wr pB _ _ _ _ e3
 ·rw [h1]
  exact one_set (hk6.heap (one_set (y := x) (k1.heap hS.fill (Ne.symm h4.n4))) h4.n6)
 ·exact (((hS.kt.keep k1 h4.k1).keep k2 h4.k2).keep hk6 h4.k3).keep k3 h4.k2
 ·exact (((k1.mono fun i hi => .inl hi).trans (k2.mono fun i hi => .inr (.inl hi))).trans (hk6.mono fun i hi => .inr (.inr hi))).trans (k3.mono fun i hi => .inr (.inl hi))
theorem write_c (pA pB pF sb : Nat) (T : List UInt8) (A : Option Addr) (c : Nat) (l : List UInt8) (w : World) (h4 : Four pA pB pF sb) (hS : Str w pA pB pF sb T) (hA : BX w (Wr pB pF sb) A l) (hc : l.length ≤ c) :
  Calls Tryz.prog 123 #[.slice A l.length c, .pointer (some ⟨pB, 0, none⟩), .pointer (some ⟨pF, 0, none⟩), .pointer (some ⟨pA, 0, none⟩)] w fun e w' =>
   e = .returned (.tuple #[]) ∧ Str w' pA pB pF sb (T ++ l) ∧ Keep (Wr pB pF sb) w w' := by
 have H4 := Lib.hid h4
 have HS := Lib.hid hS
 have HA := Lib.hid hA
 have HLL : Hid (l = [] ++ l) := rfl
 clear h4 hS hA
 go_enter Tryz.func123, Tryz.ntmps123
 go_wp2_with fail
 go_loopg [0] l.length (fun gg b wr => ∃ (d r : List UInt8) (A' : Option Addr) (c' : Nat), Hid (l = d ++ r) ∧ b = .slice A' r.length c' ∧ r.length = gg ∧ r.length ≤ c' ∧ Str wr pA pB pF sb (T ++ d) ∧ BX wr (Wr pB pF sb) A' r ∧ Keep (Wr pB pF sb) w wr)
 case atStart => exact ⟨[], l, A, c, HLL, rfl, rfl, hc, by rw [List.append_nil]; exact HS.out, HA.out, Keep.refl _ _⟩
 case round =>
  obtain ⟨d, r, A', c', hdr, rfl, rfl, hrc, hS, hA, hK⟩ := hrel
  have hlen : l.length = d.length + r.length := by rw [hdr.out, List.length_append]
  by_cases hlt : 0 < r.length
  ·obtain ⟨b, o, rfl, hb, hb2⟩ := hA 0 _ (List.getElem?_eq_getElem hlt)
   obtain ⟨lb, hl64, hlb, hrow⟩ := hS.blk
   obtain ⟨f, hf⟩ : ∃ f, f = (T ++ d).length % 64 := ⟨_, rfl⟩
   obtain ⟨n, hn⟩ : ∃ n, n = Nat.min r.length (64 - f) := ⟨_, rfl⟩
   have hf64 : f < 64 := by rw [hf]; omega
   have hn' : n = min r.length (64 - f) := hn
   have hn0 : 0 < n := by omega
   have hnr : n ≤ r.length := by omega
   have hnf : f + n ≤ 64 := by omega
   have hstep := stream_step T d r lb n hl64 hlb hnr (by rw [← hf]; exact hnf)
   rw [← hf] at hstep hlb
   obtain ⟨lb2, hlb2⟩ : ∃ x, x = lb.take f ++ (r.take n ++ lb.drop (f + n)) := ⟨_, rfl⟩
   rw [← hlb2] at hstep
   have hfill := hS.fill
   rw [← hf] at hfill
   have cF : wr.cell? ⟨pF, 0, none⟩ = some (.int .i64 (f : Int)) := by rw [cell_of_cells hfill]; rfl
   have hsl := fun w => sl56 pB f hf64 (f : Int) rfl w
   have HST := Lib.hid hstep
   have HSS := Lib.hid hS
   have HKK := Lib.hid hK
   have HAA := Lib.hid hA
   have HROW := Lib.hid hrow
   have HFILL := Lib.hid hfill
   have HF := Lib.hid hf
   have HN := Lib.hid hn
   have HL2 := Lib.hid hlb2
   have hsrc : Hid (∀ j x, (r.take n)[j]? = some x → wr.cell? ((⟨b, o, none⟩ : Addr).add j) = some (bv x)) := by
    show ∀ _ _ _, _
    intro j x hx
    have hx2 : r[j]? = some x := by
     rw [List.getElem?_take] at hx
     split at hx
     ·exact hx
     ·cases hx
    obtain ⟨b2, o2, e, _, h2⟩ := hA j x hx2
    cases e
    rw [add_none]
    exact h2
   have hd1 : decide (0 < r.length) = true := decide_eq_true hlt
   have hd2 : decide (0 < (r.length : Int)) = true := decide_eq_true (by omega)
   have hf0 : (0 : Int) ≤ (f : Int) := by omega
   clear hlen hn hn' hf hstep hlb2 hlb hfill hrow hS hK hA
   have HL64 := Lib.hid hl64
   obtain ⟨A2, hA2⟩ : ∃ A2, A2 = if c' = n then some (⟨b, o, none⟩ : Addr) else (some (⟨b, o, none⟩ : Addr)).map (·.add n) := ⟨_, rfl⟩
   have hs2 := fun w => slice_from (some ⟨b, o, none⟩) r.length c' n hnr w
   simp only [← hA2] at hs2
   have HA2 := Lib.hid hA2
   clear hl64 hA2
   have hlen2 : (r.drop n).length = r.length - n := List.length_drop
   have HDR : Hid (l = (d ++ r.take n) ++ r.drop n) := by show _ = _; rw [List.append_assoc, List.take_append_drop]; exact hdr.out
   by_cases hq : f + n = 64
   ·have hqb : (((f : Int) + (n : Int)) == 64) = true := by rw [beq_iff_eq]; omega
    obtain ⟨g1, _, g3⟩ := HST.out
    obtain ⟨g4, g5, g6⟩ := g3 hq
    have G1 := Lib.hid g1
    have G4 := Lib.hid g4
    have G5 := Lib.hid g5
    have G6 := Lib.hid g6
    have HL2n := Lib.hid hlen2
    clear g1 g3 g4 g5 g6 hq hlen2
    go_wp2_with (first | ((with_reducible refine wpList_copy_b rfl (.tmp 10) (.tmp 11) rfl pB f (64 - f) (64 - f) ⟨b, o, none⟩ r.length c' rfl rfl lb 186 HROW.out (r.take n) n (by rw [List.length_take]; omega) HN.out hsrc.out (by rw [HL64.out]; omega) ?_); intro wc hwc; rw [← HL2.out] at hwc; have hFc : wc.heap[pF]? = some (.cells #[Value.int .i64 (f : Int)] 3 (0, 0)) := (by rw [hwc, setRow_other _ _ _ _ (Ne.symm H4.out.n4)]; exact HFILL.out); have cFc : wc.cell? ⟨pF, 0, none⟩ = some (.int .i64 (f : Int)) := (by rw [cell_of_cells hFc]; rfl); have fFc : wc.frozen? ⟨pF, 0, none⟩ = false := frozen_of_row wc _ _ _ _ hFc; have cA : (wc.setCell ⟨pF, 0, none⟩ (.int .i64 ((f : Int) + (n : Int)))).cell? ⟨pA, 0, none⟩ = some (.func (.func 119) #[.pointer (some ⟨sb, 0, none⟩)] #[]) := (by rw [cell_of_cells (set_keep (by rw [hwc, setRow_other _ _ _ _ H4.out.n1]; exact HSS.out.fn) H4.out.n2)]; rfl); have ldB : ldA 186 (wc.setCell ⟨pF, 0, none⟩ (.int .i64 ((f : Int) + (n : Int)))) (.pointer (some ⟨pB, 0, none⟩)) = .ok (.value (.agg (bA lb2))) (wc.setCell ⟨pF, 0, none⟩ (.int .i64 ((f : Int) + (n : Int)))) := ldA_row (t' := 186) (fr := (0, 0)) (set_keep (by rw [hwc]; exact setRow_heap wr pB _ _ _ _ HROW.out) H4.out.n4) Tryz.underlying186 (by rw [bA_size, G1.out]; exact info56); have HWC := Lib.hid hwc; have HFC := Lib.hid hFc; clear hwc hFc cF) | fail)
    refine (add_c sb (stOf (T ++ d)) lb2 _ G1.out (set_keep (by rw [HWC.out, setRow_other _ _ _ _ (Ne.symm H4.out.n5)]; exact HSS.out.st) (Ne.symm H4.out.n6)) ((HSS.out.kt.keep (by rw [HWC.out]; exact Keep.row wr pB (bA lb2)) H4.out.k1).keep (Keep.cell wc ⟨pF, 0, none⟩ _) H4.out.k2)).mono ?_
    rintro e w6 ⟨rfl, hs6, hk6⟩
    rw [← G5.out] at hs6
    have hF6 : w6.heap[pF]? = some (.cells #[Value.int .i64 ((f : Int) + (n : Int))] 3 (0, 0)) := hk6.heap (one_set HFC.out) H4.out.n6
    have cF6 : w6.cell? ⟨pF, 0, none⟩ = some (.int .i64 ((f : Int) + (n : Int))) := by rw [cell_of_cells hF6]; rfl
    have fF6 : w6.frozen? ⟨pF, 0, none⟩ = false := frozen_of_row w6 _ _ _ _ hF6
    have HE := Lib.hid (after_full H4.out HSS.out HWC.out G1.out G4.out G6.out hs6 hk6)
    clear hs6 hk6 hF6 cA ldB cFc fFc
    go_wp2_with fail
    go_roundg (r.length - n)
    case measure => omega
    case rel => exact ⟨d ++ r.take n, r.drop n, A2, c' - n, HDR, by rw [HL2n.out], HL2n.out, by rw [HL2n.out]; omega, HE.out.1, by rw [HA2.out]; exact (HAA.out.from n c' hnr hrc).keep HE.out.2 (fun _ h => h), HKK.out.trans HE.out.2⟩
   ·have hqb : (((f : Int) + (n : Int)) == 64) = false := by rw [beq_eq_false_iff_ne]; omega
    obtain ⟨g1, g2, _⟩ := HST.out
    obtain ⟨g4, g5, g6⟩ := g2 (by omega)
    have G1 := Lib.hid g1
    have G4 := Lib.hid g4
    have G5 := Lib.hid g5
    have G6 := Lib.hid g6
    have HL2n := Lib.hid hlen2
    clear g1 g2 g4 g5 g6 hq hlen2
    go_wp2_with (first | ((with_reducible refine wpList_copy_b rfl (.tmp 10) (.tmp 11) rfl pB f (64 - f) (64 - f) ⟨b, o, none⟩ r.length c' rfl rfl lb 186 HROW.out (r.take n) n (by rw [List.length_take]; omega) HN.out hsrc.out (by rw [HL64.out]; omega) ?_); intro wc hwc; rw [← HL2.out] at hwc; have hFc : wc.heap[pF]? = some (.cells #[Value.int .i64 (f : Int)] 3 (0, 0)) := (by rw [hwc, setRow_other _ _ _ _ (Ne.symm H4.out.n4)]; exact HFILL.out); have cFc : wc.cell? ⟨pF, 0, none⟩ = some (.int .i64 (f : Int)) := (by rw [cell_of_cells hFc]; rfl); have fFc : wc.frozen? ⟨pF, 0, none⟩ = false := frozen_of_row wc _ _ _ _ hFc; have HWC := Lib.hid hwc; have HFC := Lib.hid hFc; clear hwc hFc cF) | fail)
    have HE := Lib.hid (after_part H4.out HSS.out HWC.out G1.out G4.out G5.out G6.out)
    go_roundg (r.length - n)
    case measure => omega
    case rel => exact ⟨d ++ r.take n, r.drop n, A2, c' - n, HDR, by rw [HL2n.out], HL2n.out, by rw [HL2n.out]; omega, HE.out.1, by rw [HA2.out]; exact (HAA.out.from n c' hnr hrc).keep HE.out.2 (fun _ h => h), HKK.out.trans HE.out.2⟩
  ·have hr : r = [] := List.length_eq_zero_iff.1 (by omega)
   subst hr
   have HE : Hid (d = l) := by show _ = _; rw [hdr.out, List.append_nil]
   have HSS := Lib.hid hS
   have HKK := Lib.hid hK
   clear hlen hS hK hA
   go_wp2_with fail
   go_end0
   exact ⟨rfl, by rw [← HE.out]; exact HSS.out, HKK.out⟩
end
section
open Go.RowKit
theorem put_i (g o n c X : Nat) (XI : Int) (hX : XI = X) (cs : Array Value) (T : TypeId) (w : World) (hg : w.heap[g]? = some (.cells cs T (0, 0))) (hn : n ≤ 8) (hs : o + n ≤ cs.size) :
  Calls Tryz.prog 127 #[.slice (some ⟨g, o, none⟩) n c, .int .u64 XI] w fun e w' => e = .returned (.tuple #[]) ∧ w' = w.setRow g (ovr cs o n (pb n X) 0) := by
 subst hX; exact put_c g o n c X cs T w hg hn hs
theorem blocks_nat (n : Nat) (w : World) (h : n ≤ 1000000000) : Calls Tryz.prog 126 #[.int .i64 (n : Int)] w fun e w' => e = .returned (.int .i64 (((n + 72) / 64 : Nat) : Int)) ∧ w = w' := by
 refine (blocks_c n w (by omega) (by omega)).mono ?_
 rintro e w' ⟨rfl, rfl⟩
 exact ⟨ret_int (by unfold blocksI; rw [if_neg (by omega)]; omega), rfl⟩
theorem padTail_get (n j : Nat) (L : Nat) (hL : (padTail n).length = L) : ((padTail n).getD j 0) = if j = 0 then 128 else if j < L - 8 then 0 else (beN 8 (8 * n)).getD (j - (L - 8)) 0 := by
 have hl := hL
 unfold padTail at hl ⊢
 simp only [List.length_cons, List.length_append, List.length_replicate, beN_len] at hl
 rcases j with _ | j
 ·rfl
 ·simp only [List.getD_eq_getElem?_getD, List.getElem?_cons_succ, if_neg (Nat.succ_ne_zero j)]
  by_cases h : j + 1 < L - 8
  ·rw [if_pos h, List.getElem?_append_left (by simp; omega)]
   simp [show j < zeros n by omega]
  ·rw [if_neg h, List.getElem?_append_right (by simp; omega)]
   simp only [List.length_replicate]
   rw [show j - zeros n = j + 1 - (L - 8) by omega]
theorem pad_laid (n L : Nat) (hL : (padTail n).length = L) (h9 : 9 ≤ L) : ovr (bA ((List.replicate L (0 : UInt8)).set 0 128)) (L - 8) 8 (pb 8 (8 * n)) 0 = bA (padTail n) := by
 apply Array.ext_getElem?
 intro i
 rcases Nat.lt_or_ge i L with h2 | h2
 ·rw [bA_at (padTail n) i (by omega), padTail_get n i L hL]
  by_cases h : L - 8 + 0 ≤ i ∧ i < L - 8 + 8
  ·rw [ovr_at _ _ _ _ _ _ h.1 h.2 (by rw [bA_size]; simpa using h2), if_neg (by omega), if_neg (by omega), beN_at _ _ _ (by omega)]
   rfl
  ·rw [ovr_other _ _ _ _ _ _ h, bA_at _ _ (by simpa using h2)]
   by_cases h0 : i = 0
   ·subst h0
    simp [List.getD_eq_getElem?_getD, show 0 < L by omega]
   ·rw [if_neg h0, if_pos (by omega)]
    simp [List.getD_eq_getElem?_getD, Ne.symm h0, h2]
 ·rw [Array.getElem?_eq_none (by rw [ovr_size, bA_size]; simpa using h2), Array.getElem?_eq_none (by rw [bA_size, hL]; exact h2)]
theorem padding_c (n : Nat) (w : World) (hn : n ≤ 1000000000) :
  Calls Tryz.prog 120 #[.int .i64 (n : Int)] w fun e w' => e = .returned (.slice (some ⟨w.heap.size, 0, none⟩) (padTail n).length (padTail n).length) ∧ w'.heap[w.heap.size]? = some (.cells (bA (padTail n)) 5 (0, 0)) ∧ Below w.heap.size w w' := by
 obtain ⟨M, hM⟩ : ∃ M, M = (n + 72) / 64 := ⟨_, rfl⟩
 obtain ⟨L, hL⟩ : ∃ L, L = (padTail n).length := ⟨_, rfl⟩
 have hLM : L = 64 * M - n := by rw [hL, padTail_len, hM]
 have h9 : 9 ≤ L := by omega
 have hMM : M ≤ 20000000 := by omega
 have hMn : n + L = 64 * M := by omega
 rw [← hL]
 have hb := fun w => blocks_nat n w hn
 simp only [← hM] at hb
 have HB := Lib.hid hb
 have hmk := fun w => make_b L ((M : Int) * 64 - (n : Int)) (by omega) (by omega) w
 obtain ⟨Z, hZ⟩ : ∃ Z, Z = bA (List.replicate L 0) := ⟨_, rfl⟩
 simp only [← hZ] at hmk
 have hc0 : ∀ w : World, (w.alloc (.cells Z 5)).cell? ⟨w.heap.size, 0, none⟩ = some (bv 0) := fun w => by
  rw [cell_of_cells (heap_alloc_new w _), hZ, bA_at _ _ (by simp; omega)]
  simp [List.getD_eq_getElem?_getD, show 0 < L by omega]
 have hZs : Z.setIfInBounds 0 (.int .u8 128) = bA ((List.replicate L (0 : UInt8)).set 0 128) := by
  rw [hZ]; exact bA_set _ 0 128
 obtain ⟨Y, hY⟩ : ∃ Y, Y = bA ((List.replicate L (0 : UInt8)).set 0 128) := ⟨_, rfl⟩
 rw [← hY] at hZs
 have hYs : Y.size = L := by rw [hY, bA_size]; simp
 have HY := Lib.hid hY
 have HYs := Lib.hid hYs
 clear hZ hY hYs
 have HP := Lib.hid (pad_laid n L hL.symm h9)
 have h72 : (L : Int) ≤ 72 := by omega
 have hs2 : ∀ (g : Nat) (v : World), (Instr.sliceAt 66 (.slice (some ⟨g, 0, none⟩) L L) (some (.int .i64 ((L : Int) - 8))) none none).run Tryz.prog v = .ok (.slice (some ⟨g, L - 8, none⟩) 8 8) v := fun g v => by
  have := slice_from (some ⟨g, 0, none⟩) L L (L - 8) (by omega) v
  rw [show (((L - 8 : Nat) : Nat) : Int) = (L : Int) - 8 by omega, if_neg (by omega), show L - (L - 8) = 8 by omega] at this
  simpa [add_none] using this
 have HL := Lib.hid hL
 have HM := Lib.hid hM
 have p1 : (M : Int) * 64 ≤ 2000000000 := by omega
 have p2 : (n : Int) ≤ (M : Int) * 64 := by omega
 have p3 : (8 : Int) ≤ (L : Int) := by omega
 clear hb hL hM hLM hMn
 go_enter Tryz.func120, Tryz.ntmps120
 go_wp2_with fail
 refine (HB.out _).mono ?_
 rintro e w' ⟨rfl, rfl⟩
 go_wp2_with fail
 refine (put_i w.heap.size (L - 8) 8 8 (8 * n) _ (by simp) Y 5 _ (heap_alloc_new w _) (by decide) (by rw [HYs.out]; omega)).mono ?_
 rintro e w5 ⟨rfl, rfl⟩
 rw [World.setRow_alloc_new, HY.out, HP.out]
 go_wp2_with fail
 go_ret
 exact ⟨rfl, heap_alloc_new w _, (Below.refl _ _).alloc (Nat.le_refl _) _⟩
end
section
open Go.RowKit
theorem zero49 : ∀ w, (zeroValue 180).run Tryz.prog w = .ok (.agg (uA z39)) w := fun _ => by kernel_rfl
attribute [go_sem ↓] zero49
theorem bld49 (w : World) : bldA 180 w #[(0, .agg (uA init8.list))] = .ok (.value (.agg (uA init8.list))) w := by kernel_rfl
def IT (w : World) : Prop := w.rangeAt 0 0 (init8.list.map u)
theorem IT.keep {L : Nat → Prop} {a b : World} (h : IT a) (k : Keep L a b) (h1 : ¬ L 0) : IT b := fun j v hv => k.cellAt (h j v hv) h1
theorem IT.ld {w : World} (h : IT w) : ldA 157 w (.pointer (some ⟨0, 0, none⟩)) = .ok (.value (.agg (uA init8.list))) w := ldA_of h Tryz.underlying157 (by rw [List.length_map, s8_len]; exact info39)
def W0 (w : World) : World := ((((w.alloc (.cells (bA z26) 45)).alloc (.cells (uA init8.list) 180)).alloc (.cells #[addV (w.heap.size + 1)] 183)).alloc (.cells (bA z56) 186)).alloc (.cells #[.int .i64 0] 3)
theorem W0_size (w : World) : (W0 w).heap.size = w.heap.size + 5 := by simp [W0]
theorem W0_keep (w : World) : Keep (fun _ => False) w (W0 w) := (((((Keep.refl _ w).alloc _).alloc _).alloc _).alloc _).alloc _
theorem W0_str (w : World) (hk : KT w) : Str (W0 w) (w.heap.size + 2) (w.heap.size + 3) (w.heap.size + 4) (w.heap.size + 1) [] := by
 obtain ⟨_, h1, h2, h3, h4⟩ := heap5 w (.cells (bA z26) 45) (.cells (uA init8.list) 180) (.cells #[addV (w.heap.size + 1)] 183) (.cells (bA z56) 186) (.cells #[.int .i64 0] 3)
 exact ⟨h2, ⟨z56, rfl, rfl, h3⟩, h4, h1, hk.keep (W0_keep w) fun h => h⟩
theorem KT.two {w : World} (h : KT w) : 1 + 1 ≤ w.heap.size := lt_of_cell (h 0 (by decide))
theorem four {w : World} (h : KT w) : Four (w.heap.size + 2) (w.heap.size + 3) (w.heap.size + 4) (w.heap.size + 1) := by
 have := h.two
 exact ⟨by omega, by omega, by omega, by omega, by omega, by omega, by omega, by omega, by omega⟩
theorem join_c (A : Option Addr) (c : Nat) (ls : List Pc) (w : World) (hA : SL w A ls) (hk : KT w) (hi : IT w) (hl : (catAll ls).length ≤ 1000000) (hls : ls.length ≤ 1000000) :
  Calls Tryz.prog 115 #[.slice A ls.length c] w fun e w' => e = .returned (.agg (bA (sumL (catAll ls)))) ∧ Below w.heap.size w w' := by
 have hmf : ∀ (fn : Fn) (first cap : Array Value) (w : World), (Instr.makeFunc fn first cap).run Tryz.prog w = .ok (.func fn first cap) w := fun _ _ _ _ => rfl
 have ld0 : ∀ o, ldA 157 (w.alloc o) (.pointer (some ⟨0, 0, none⟩)) = .ok (.value (.agg (uA init8.list))) (w.alloc o) := fun o => (hi.keep ((Keep.refl (fun _ => False) w).alloc o) fun h => h).ld
 have bl0 := bld49
 have st0 := fun ob => stA_two w ob (uA z39) (uA init8.list) (t := 180) info49 rfl (uA_one _)
 have HA := Lib.hid hA
 have HK := Lib.hid hk
 clear hA hk hi
 go_enter Tryz.func115, Tryz.ntmps115
 go_wp2_with fail
 refine (inBlocks_c (w.heap.size + 1) _).mono ?_
 rintro e w1 ⟨rfl, hw1⟩
 have hw : w1 = W0 w := hw1
 have hsz : w1.heap.size = w.heap.size + 5 := by rw [hw, W0_size]
 have hS1 : Str w1 (w.heap.size + 2) (w.heap.size + 3) (w.heap.size + 4) (w.heap.size + 1) (cat ls 0) := by rw [hw]; exact W0_str w HK.out
 have hk1 : Keep (fun _ => False) w w1 := by rw [hw]; exact W0_keep w
 have hr1 : w1.heap[w.heap.size]? = some (.cells (bA z26) 45 (0, 0)) := by rw [hw]; exact (heap5 w _ _ _ _ _).1
 have HSZ := Lib.hid hsz
 have HS1 := Lib.hid hS1
 have HK1 := Lib.hid hk1
 have HR1 := Lib.hid hr1
 have H4 := Lib.hid (four HK.out)
 clear hw hw1 hsz hS1 hk1 hr1 ld0 bl0 st0
 go_wp2_with fail
 go_loopg [5, 14] ls.length (fun gg n i wr => ∃ k : Nat, i = .int .i64 k ∧ k ≤ ls.length ∧ ls.length - k = gg ∧ n = .int .i64 (((cat ls k).length : Nat) : Int) ∧ Str wr (w.heap.size + 2) (w.heap.size + 3) (w.heap.size + 4) (w.heap.size + 1) (cat ls k) ∧ Keep (Wr (w.heap.size + 3) (w.heap.size + 4) (w.heap.size + 1)) w1 wr)
 case atStart => exact ⟨0, rfl, by omega, by omega, rfl, HS1.out, Keep.refl _ _⟩
 case round =>
  obtain ⟨k, rfl, hkl, rfl, rfl, hS, hKr⟩ := hrel
  have HS := Lib.hid hS
  have HKr := Lib.hid hKr
  have hB : ∀ i, i < w.heap.size → ¬ Wr (w.heap.size + 3) (w.heap.size + 4) (w.heap.size + 1) i := fun i hi h => by
   rcases h with h | h | h <;> omega
  have HB := Lib.hid hB
  have hcl := cat_le ls k
  clear hS hKr hB
  by_cases hlt : k < ls.length
  ·obtain ⟨x, hx⟩ : ∃ x, ls[k]? = some x := ⟨_, List.getElem?_eq_getElem hlt⟩
   obtain ⟨hxc, hxb, g, o, rfl, hcell⟩ := HA.out k x hx
   have hcs := cat_succ ls k x hx
   have hcl2 := cat_le ls (k + 1)
   have hlen : (cat ls (k + 1)).length = (cat ls k).length + x.l.length := by rw [hcs, List.length_append]
   have hcr : wr.cell? ⟨g, o + k, none⟩ = some (.slice x.A x.l.length x.c) := HKr.out.cellAt (HK1.out.cellAt hcell fun h => h) (HB.out g (lt_of_cell hcell))
   have HBX : Hid (BX wr (Wr (w.heap.size + 3) (w.heap.size + 4) (w.heap.size + 1)) x.A x.l) := BX.keep (hxb.bx HK1.out (fun _ _ h => h) HB.out) HKr.out (fun _ h => h)
   have HCS := Lib.hid hcs
   have HLEN := Lib.hid hlen
   have b1 : (cat ls k).length + x.l.length ≤ 1000000 := by omega
   have hd : decide (k < ls.length) = true := decide_eq_true hlt
   have p0 : (0 : Int) ≤ (k : Int) := by omega
   have p1 : (k : Int) < (ls.length : Int) := by omega
   clear hx hcell hxb hcs hlen
   go_wp2_with fail
   refine (write_c (w.heap.size + 2) (w.heap.size + 3) (w.heap.size + 4) (w.heap.size + 1) (cat ls k) x.A x.c x.l wr H4.out HS.out HBX.out hxc).mono ?_
   rintro e w5 ⟨rfl, hS5, hk5⟩
   rw [← HCS.out] at hS5
   have HS5 := Lib.hid hS5
   have HK5 := Lib.hid (HKr.out.trans hk5)
   clear hS5 hk5 hcr
   go_wp2_with fail
   go_roundg (ls.length - (k + 1))
   case measure => omega
   case rel => exact ⟨k + 1, by go_num, by omega, rfl, by rw [HLEN.out]; go_num, HS5.out, HK5.out⟩
  ·obtain rfl : k = ls.length := by omega
   have hd : decide (ls.length < ls.length) = false := decide_eq_false (by omega)
   obtain ⟨N, hN⟩ : ∃ N, N = (cat ls ls.length).length := ⟨_, rfl⟩
   rw [← hN]
   have hN2 : N ≤ 1000000 := by omega
   have HN := Lib.hid hN
   clear hN
   go_wp2_with fail
   refine (padding_c N wr (by omega)).mono ?_
   rintro e w5 ⟨rfl, hp5, hb5⟩
   have hS5 : Str w5 (w.heap.size + 2) (w.heap.size + 3) (w.heap.size + 4) (w.heap.size + 1) (cat ls ls.length) := HS.out.keep (Keep.of_below (L := fun _ => False) hb5) (fun h => h) (fun h => h) (fun h => h) (fun h => h) (fun h => h)
   have hszr : w.heap.size + 5 ≤ wr.heap.size := by rw [← HSZ.out]; exact HKr.out.size
   have HBX : Hid (BX w5 (Wr (w.heap.size + 3) (w.heap.size + 4) (w.heap.size + 1)) (some ⟨wr.heap.size, 0, none⟩) (padTail N)) := fun j x hx => by
    refine ⟨_, _, rfl, fun h => (by rcases h with h | h | h <;> omega), ?_⟩
    have hj := (List.getElem?_eq_some_iff.1 hx).1
    rw [cell_of_cells hp5, Nat.zero_add, bA_at _ _ hj]
    simp [List.getD_eq_getElem?_getD, hx]
   have HS5 := Lib.hid hS5
   have HK5 := Lib.hid (HKr.out.step (Keep.of_below (L := fun _ => False) hb5) fun _ h => h.elim)
   clear hp5 hb5 hS5
   go_wp2_with fail
   refine (write_c (w.heap.size + 2) (w.heap.size + 3) (w.heap.size + 4) (w.heap.size + 1) (cat ls ls.length) (some ⟨wr.heap.size, 0, none⟩) (padTail N).length (padTail N) w5 H4.out HS5.out HBX.out (Nat.le_refl _)).mono ?_
   rintro e w6 ⟨rfl, hS6, hk6⟩
   have hT : cat ls ls.length ++ padTail N = padL (catAll ls) := by rw [HN.out, ← padL_eq, cat_all]
   rw [hT] at hS6
   have HS6 := Lib.hid hS6
   have HK6 := Lib.hid (HK5.out.trans hk6)
   clear hS6 hk6 hT
   go_wp2_with fail
   refine (digest_c (w.heap.size + 1) (stOf (padL (catAll ls))) w6 HS6.out.st).mono ?_
   rintro e w7 ⟨rfl, hb7⟩
   rw [← sumL_eq]
   have hr7 : w7.heap[w.heap.size]? = some (.cells (bA z26) 45 (0, 0)) := by
    have h1 := HK6.out.heap HR1.out (by intro h; rcases h with h | h | h <;> omega)
    rw [hb7.block _ (lt_of_heap h1)]; exact h1
   have st1 : stA 45 w7 (.pointer (some ⟨w.heap.size, 0, none⟩)) (.agg (bA (sumL (catAll ls)))) = .ok .skip (w7.setRow w.heap.size (bA (sumL (catAll ls)))) := stA_row hr7 (by rw [bA_size, sumL_len]; exact info26) (by rw [bA_size, bA_size, sumL_len]; rfl) (bA_one _)
   have HM := Lib.hid (setRow_heap w7 w.heap.size _ (bA (sumL (catAll ls))) _ _ hr7)
   have HBW : Hid (Below w.heap.size w (w7.setRow w.heap.size (bA (sumL (catAll ls))))) := below_setRow ((((HK1.out.step HK6.out (M := Wr (w.heap.size + 3) (w.heap.size + 4) (w.heap.size + 1)) fun i hi => .inr (by rcases hi with h | h | h <;> omega)).below (Nat.le_refl _) fun _ h => h.elim)).trans (hb7.mono (by have := HK6.out.size; have := HSZ.out; omega))) (Nat.le_refl _) _
   clear hr7 hb7
   go_wp2_with fail
   refine bodyPost_ret (v := .agg (bA (sumL (catAll ls)))) ?_ rfl ⟨rfl, HBW.out⟩
   exact results_cell_row Tryz.results115 _ _ w.heap.size 45 _ (0, 0) _ rfl HM.out Tryz.underlying45 rfl (by rw [bA_size, sumL_len]; exact info26)
theorem sum_c (A : Option Addr) (c : Nat) (l : List UInt8) (w : World) (hA : BA w A l) (hc : l.length ≤ c) (hk : KT w) (hi : IT w) (hl : l.length ≤ 1000000) :
  Calls Tryz.prog 104 #[.slice A l.length c] w fun e w' => e = .returned (.agg (bA (sumL l))) ∧ Below w.heap.size w w' := by
 have hB1 : Below w.heap.size w (w.alloc (.cells (bA z26) 45)) := (Below.refl _ _).alloc (Nat.le_refl _) _
 have hsl : SL ((w.alloc (.cells (bA z26) 45)).alloc (.cells #[.slice A l.length c] 66)) (some ⟨w.heap.size + 1, 0, none⟩) [⟨A, l, c⟩] := by
  have := sl_one (hA.below hB1) hc 66
  rwa [show (w.alloc (.cells (bA z26) 45)).heap.size = w.heap.size + 1 by simp] at this
 have hkp : Keep (fun _ => False) w ((w.alloc (.cells (bA z26) 45)).alloc (.cells #[.slice A l.length c] 66)) := ((Keep.refl _ w).alloc _).alloc _
 have HJ := Lib.hid (join_c (some ⟨w.heap.size + 1, 0, none⟩) 1 [⟨A, l, c⟩] _ hsl (hk.keep hkp fun h => h) (hi.keep hkp fun h => h) (by simpa [catAll] using hl) (show 1 ≤ 1000000 by decide))
 have HKp := Lib.hid hkp
 clear hB1 hsl hkp
 go_enter Tryz.func104, Tryz.ntmps104
 go_wp2_with fail
 refine HJ.out.mono ?_
 rintro e w5 ⟨rfl, hb⟩
 rw [show catAll [⟨A, l, c⟩] = l by simp [catAll]]
 have hr : w5.heap[w.heap.size]? = some (.cells (bA z26) 45 (0, 0)) := by
  rw [hb.block _ (by simp; omega), Below.heap_alloc _ _ _ (by simp)]; exact heap_alloc_new w _
 have st1 : stA 45 w5 (.pointer (some ⟨w.heap.size, 0, none⟩)) (.agg (bA (sumL l))) = .ok .skip (w5.setRow w.heap.size (bA (sumL l))) := stA_row hr (by rw [bA_size, sumL_len]; exact info26) (by rw [bA_size, bA_size, sumL_len]; rfl) (bA_one _)
 have HM := Lib.hid (setRow_heap w5 w.heap.size _ (bA (sumL l)) _ _ hr)
 have HBW : Hid (Below w.heap.size w (w5.setRow w.heap.size (bA (sumL l)))) := below_setRow ((HKp.out.below (Nat.le_refl _) fun _ h => h.elim).trans (hb.mono (by simp; omega))) (Nat.le_refl _) _
 clear hr hb
 go_wp2_with fail
 refine bodyPost_ret (v := .agg (bA (sumL l))) ?_ rfl ⟨rfl, HBW.out⟩
 exact results_cell_row Tryz.results104 _ _ w.heap.size 45 _ (0, 0) _ rfl HM.out Tryz.underlying45 rfl (by rw [bA_size, sumL_len]; exact info26)
end
section
open Go.RowKit
end
section
open Go.RowKit
structure Vars (w : World) : Prop where
 kt : KT w
 it : IT w
theorem Vars.keep {L : Nat → Prop} {a b : World} (h : Vars a) (k : Keep L a b) (h1 : ¬ L 1) (h0 : ¬ L 0) : Vars b := ⟨h.kt.keep k h1, h.it.keep k h0⟩
theorem Vars.below {a b : World} (h : Vars a) (k : Below a.heap.size a b) : Vars b := h.keep (Keep.of_below (L := fun _ => False) k) (fun h => h) (fun h => h)
end
section
open Go.RowKit
theorem bld8 (w : World) (a b c d e f g h : UInt32) : bldA 157 w #[(0, u a), (1, u b), (2, u c), (3, u d), (4, u e), (5, u f), (6, u g), (7, u h)] = .ok (.value (.agg (uA [a, b, c, d, e, f, g, h]))) w := by kernel_rfl
theorem bldInit (w : World) : bldA 157 w #[(0, .int .u32 1779033703), (1, .int .u32 3144134277), (2, .int .u32 1013904242), (3, .int .u32 2773480762), (4, .int .u32 1359893119), (5, .int .u32 2600822924), (6, .int .u32 528734635), (7, .int .u32 1541459225)] = .ok (.value (.agg (uA init8.list))) w := by kernel_rfl
def w3 (w : World) : World := ((w.alloc (.cells (bA z26) 45)).alloc (.cells (uA init8.list) 157)).alloc (.cells (uA kTab) 156)
theorem w3_size (w : World) : (w3 w).heap.size = w.heap.size + 3 := by simp [w3]
theorem w3_keep (w : World) : Keep (fun _ => False) w (w3 w) := (((Keep.refl _ w).alloc _).alloc _).alloc _
theorem w3_heap (w : World) : (w3 w).heap[w.heap.size]? = some (.cells (bA z26) 45 (0, 0)) ∧ (w3 w).heap[w.heap.size + 1]? = some (.cells (uA init8.list) 157 (0, 0)) ∧ (w3 w).heap[w.heap.size + 1 + 1]? = some (.cells (uA kTab) 156 (0, 0)) := by
 have n1 := heap_alloc_new (w.alloc (.cells (bA z26) 45)) (.cells (uA init8.list) 157)
 have n2 := heap_alloc_new ((w.alloc (.cells (bA z26) 45)).alloc (.cells (uA init8.list) 157)) (.cells (uA kTab) 156)
 rw [show (w.alloc (.cells (bA z26) 45)).heap.size = w.heap.size + 1 by simp] at n1
 rw [show ((w.alloc (.cells (bA z26) 45)).alloc (.cells (uA init8.list) 157)).heap.size = w.heap.size + 1 + 1 by simp] at n2
 unfold w3
 refine ⟨?_, ?_, n2⟩
 ·rw [Below.heap_alloc _ _ _ (by simp; omega), Below.heap_alloc _ _ _ (by simp)]; exact heap_alloc_new w _
 ·rw [Below.heap_alloc _ _ _ (by simp)]; exact n1
theorem cells8 {w : World} {b : Nat} {s : S8} (h : w.heap[b]? = some (.cells (uA s.list) 157 (0, 0))) : w.cell? ⟨b, 0, none⟩ = some (u s.a) ∧ w.cell? ⟨b, 1, none⟩ = some (u s.b) ∧ w.cell? ⟨b, 2, none⟩ = some (u s.c) ∧ w.cell? ⟨b, 3, none⟩ = some (u s.d) ∧
  w.cell? ⟨b, 4, none⟩ = some (u s.e) ∧ w.cell? ⟨b, 5, none⟩ = some (u s.f) ∧ w.cell? ⟨b, 6, none⟩ = some (u s.g) ∧ w.cell? ⟨b, 7, none⟩ = some (u s.h) := by
 refine ⟨?_, ?_, ?_, ?_, ?_, ?_, ?_, ?_⟩ <;> (rw [cell_of_cells h]; rfl)
def outq (s : S8) (i : Nat) : List UInt8 := (List.range 32).map fun j => if j < i then (outB s).getD j 0 else 0
theorem outq_len (s : S8) (i : Nat) : (outq s i).length = 32 := by simp [outq]
theorem outq_zero (s : S8) : outq s 0 = z26 := outp_zero s
theorem outq_end (s : S8) : outq s 32 = outB s := outp_end s
theorem outq_step (s : S8) (i : Nat) (h : i < 32) : (outq s i).set i ((outB s).getD i 0) = outq s (i + 1) := by
 apply List.ext_getElem?
 intro t
 rw [List.getElem?_set]
 by_cases e : i = t
 ·subst e
  rw [if_pos rfl, outq_len, if_pos h]
  simp only [outq, List.getElem?_map, List.getElem?_range h, Option.map_some]
  rw [if_pos (by omega)]
 ·rw [if_neg e]
  rcases Nat.lt_or_ge t 32 with h2 | h2
  ·simp only [outq, List.getElem?_map, List.getElem?_range h2, Option.map_some]
   by_cases h3 : t < i
   ·rw [if_pos h3, if_pos (by omega)]
   ·rw [if_neg h3, if_neg (by omega)]
  ·rw [List.getElem?_eq_none (by simpa [outq] using h2), List.getElem?_eq_none (by simpa [outq] using h2)]
theorem shr_toNat (x : UInt32) (n : Nat) (h : n < 32) : (x >>> UInt32.ofNat n).toNat = x.toNat / 2 ^ n := by
 rw [UInt32.toNat_shiftRight, Nat.shiftRight_eq_div_pow]
 congr 2
 simp; omega
theorem blks_step (P sub : List UInt8) (j : Nat) (hs : sub = (P.drop (64 * j)).take 64) : (blks P j).add (rounds (blks P j) (sched (fnOf sub)) 64) = blks P (j + 1) := by
 rw [blks]
 show blk (blks P j) (fnOf sub) = _
 refine blk_congr _ _ _ fun t ht => ?_
 rw [hs, fnOf]
 simp [List.getD_eq_getElem?_getD, ht, List.getElem?_drop]
theorem rsum_c (A : Option Addr) (c : Nat) (l : List UInt8) (w : World) (hA : BA w A l) (hl : l.length ≤ 1000000000) :
  Calls Tryz.prog 75 #[.slice A l.length c] w fun e w' => e = .returned (.agg (bA (sumL l))) ∧ Below w.heap.size w w' := by
 have HA : Hid (BA (w3 w) A l) := hA.below ((w3_keep w).below (Nat.le_refl _) fun _ h => h.elim)
 have bi := bldInit
 have st0 := fun ob => stA_two w ob (uA z39) (uA init8.list) (t := 157) info39 rfl (uA_one _)
 clear hA
 go_enter Tryz.func75, Tryz.ntmps75
 go_wp2_with fail
 refine (primes_c _).mono ?_
 rintro e w0 ⟨rfl, hw0⟩
 have hw : w0 = w3 w := hw0
 subst hw
 clear hw0 bi st0
 go_wp2_with fail
 refine (pad_c A c l (w3 w) HA.out hl).mono ?_
 rintro e w4 ⟨v, rfl, hO, hB⟩
 obtain ⟨P, hP⟩ : ∃ P, P = padL l := ⟨_, rfl⟩
 obtain ⟨M, hM⟩ : ∃ M, M = (l.length + 72) / 64 := ⟨_, rfl⟩
 have hPl : P.length = 64 * M := by rw [hP, padL_len, hM]
 rw [← hP] at hO
 obtain ⟨g, c5, rfl, hc5, hc6, hg, hba⟩ := hO.ba (by rw [hPl]; omega)
 rw [hPl] at hc5 ⊢
 have HP := Lib.hid hP
 have HM := Lib.hid hM
 have HPl := Lib.hid hPl
 have HBA := Lib.hid hba
 obtain ⟨r0, r1, r2⟩ := w3_heap w
 have HK4 : Hid (Keep (fun _ => False) w w4) := (w3_keep w).trans (Keep.of_below hB)
 have HRES := Lib.hid ((Keep.of_below (L := fun _ => False) hB).heap r0 fun h => h)
 have HST := Lib.hid ((Keep.of_below (L := fun _ => False) hB).heap r1 fun h => h)
 have HKT := Lib.hid ((Keep.of_below (L := fun _ => False) hB).heap r2 fun h => h)
 have hg3 : w.heap.size + 3 ≤ g := by rw [w3_size] at hg; exact hg
 have hs4 : w.heap.size + 3 ≤ w4.heap.size := by have := hB.size; rw [w3_size] at this; exact this
 have hMl : M ≤ 20000000 := by omega
 unfold maxLen at hc6
 clear hP hM hPl hba hB hO hg r0 r1 r2
 go_wp2_with fail
 go_loopg [6] M (fun gg from_ wr => ∃ j : Nat, from_ = .int .i64 (64 * (j : Int)) ∧ j ≤ M ∧ M - j = gg ∧ wr.heap[w.heap.size + 1]? = some (.cells (uA (blks P j).list) 157 (0, 0)) ∧ Keep (fun i => i = w.heap.size + 1) w4 wr)
 case atStart => exact ⟨0, rfl, by omega, by omega, HST.out, Keep.refl _ _⟩
 case round =>
  clear HST
  obtain ⟨j, rfl, hj, rfl, hS, hK⟩ := hrel
  have HS := Lib.hid hS
  have HK := Lib.hid hK
  clear hS hK
  by_cases hlt : j < M
  ·have hd : decide ((64 : Int) * (j : Int) < ((64 * M : Nat) : Int)) = true := by rw [decide_eq_true_eq]; omega
   have hd1 : decide ((64 : Int) * (j : Int) < 64 * (M : Int)) = true := by rw [decide_eq_true_eq]; omega
   obtain ⟨sub, hsub⟩ : ∃ x, x = (P.drop (64 * j)).take 64 := ⟨_, rfl⟩
   have HSB := Lib.hid hsub
   have hsb : BA wr (some ⟨g, 64 * j, none⟩) sub := by rw [hsub]; exact (HBA.out.keep HK.out (by omega)).sub _ _
   have hsl : sub.length = 64 := by rw [hsub]; exact sub_len HPl.out hlt
   have HSb := Lib.hid hsb
   have HSl := Lib.hid hsl
   have hsl2 : ∀ v, (Instr.sliceAt 66 (.slice (some ⟨g, 0, none⟩) (64 * M) c5) (some (.int .i64 (64 * (j : Int)))) (some (.int .i64 (64 * (j : Int) + 64))) none).run Tryz.prog v = .ok (.slice (some ⟨g, 64 * j, none⟩) 64 (c5 - 64 * j)) v := fun v => by
    have e22 : Tryz.prog.elem 66 = 5 := by kernel_rfl
    have ht : Tryz.prog.underlying 66 = some (.slice (Tryz.prog.elem 66)) := by rw [e22]; exact Tryz.underlying66
    rw [run_sliceAt_slice v 66 _ _ _ _ ht, run_slice_lh v 66 _ _ _ ht .i64 .i64 _ _ (by omega) (by omega) (by omega), e22, size5]
    have n1 : ((64 : Int) * (j : Int)).toNat = 64 * j := by omega
    have n2 : ((64 : Int) * (j : Int) + 64).toNat = 64 * j + 64 := by omega
    simp [sliced, n1, n2, show ¬ c5 = 64 * j by omega, add_none]
   clear hsub hsb hsl
   go_wp2_with fail
   refine (sched_c g (64 * j) (c5 - 64 * j) sub wr HSl.out HSb.out).mono ?_
   rintro e w5 ⟨v5, rfl, hO5, hB5⟩
   obtain ⟨Wl, hWl⟩ : ∃ x, x = sched (fnOf sub) := ⟨_, rfl⟩
   rw [← hWl] at hO5
   have hWll : Wl.length = 64 := by rw [hWl, sched_len]
   obtain ⟨A7, c7, rfl, hc7, hW7⟩ := hO5.row
   rw [hWll] at hc7 ⊢
   obtain ⟨S0, hS0⟩ : ∃ x, x = blks P j := ⟨_, rfl⟩
   obtain ⟨g7, rfl, _⟩ : ∃ g7, A7 = some ⟨g7, 0, none⟩ ∧ True := by
    obtain ⟨g7, e, _⟩ := hW7 0 (Wl.getD 0 0) (by simp [List.getD, List.getElem?_eq_getElem (show 0 < Wl.length by omega)])
    exact ⟨g7, e, trivial⟩
   have hcw : ∀ t, t < 64 → w5.cell? ⟨g7, t, none⟩ = some (u (Wl.getD t 0)) := fun t ht => by
    obtain ⟨g2, e, h⟩ := hW7 t (Wl.getD t 0) (by simp [List.getD, List.getElem?_eq_getElem (show t < Wl.length by omega)])
    cases e; exact h
   have HK5 : Hid (Keep (fun i => i = w.heap.size + 1) w4 w5) := HK.out.trans (Keep.of_below hB5)
   have hs5 : w5.heap[w.heap.size + 1]? = some (.cells (uA S0.list) 157 (0, 0)) := by rw [hS0]; exact (Keep.of_below (L := fun _ => False) hB5).heap HS.out fun h => h
   have ld5 : ldA 157 w5 (.pointer (some ⟨w.heap.size + 1, 0, none⟩)) = .ok (.value (.agg (uA S0.list))) w5 := ldA_row hs5 Tryz.underlying157 (by rw [uS_size]; exact info39)
   have st5 := stA_new (t := 157) w5 (uA z39) (uA S0.list) (by rw [uS_size]; exact info39) rfl (uA_one _)
   have HS5 := Lib.hid hs5
   have HCW := Lib.hid hcw
   have HWl := Lib.hid hWl
   have HS0 := Lib.hid hS0
   have sz5 : w.heap.size + 3 ≤ w5.heap.size := by have := HK5.out.size; omega
   have hg75 : g7 < w5.heap.size := lt_of_cell (hcw 0 (by decide))
   clear hs5 hB5 hW7 hWl hWll hS0 hO5 hd hd1 hsl2 hcw
   go_wp2_with fail
   have hV : (w5.alloc (.cells (uA S0.list) 157)).heap[w5.heap.size]? = some (.cells (uA (rounds S0 Wl 0).list) 157 (0, 0)) := heap_alloc_new w5 _
   have hKo : Keep (fun _ => False) w5 (w5.alloc (.cells (uA S0.list) 157)) := (Keep.refl _ w5).alloc _
   have hso : (w5.alloc (.cells (uA S0.list) 157)).heap.size = w5.heap.size + 1 := by simp
   obtain ⟨wo, hwo⟩ : ∃ wo, wo = w5.alloc (.cells (uA S0.list) 157) := ⟨_, rfl⟩
   rw [← hwo] at hV hKo hso ⊢
   have HV := Lib.hid hV
   have HKo := Lib.hid hKo
   have HSo := Lib.hid hso
   clear hV hKo hwo ld5 st5 hso
   go_loopg [9] 64 (fun gg i wi => ∃ t : Nat, i = .int .i64 t ∧ t ≤ 64 ∧ 64 - t = gg ∧ wi.heap[w5.heap.size]? = some (.cells (uA (rounds S0 Wl t).list) 157 (0, 0)) ∧ Keep (fun i => i = w5.heap.size) wo wi)
   case atStart => exact ⟨0, rfl, by omega, by omega, HV.out, Keep.refl _ _⟩
   case round =>
    clear HV
    obtain ⟨t, rfl, ht, rfl, hR, hGi⟩ := hrel
    have HR := Lib.hid hR
    have HGi := Lib.hid hGi
    clear hR hGi
    have HK5i : Hid (Keep (fun i => i = w5.heap.size) w5 wr) := (HKo.out.mono fun _ h => h.elim).trans HGi.out
    by_cases htl : t < 64
    ·have hd : decide ((t : Int) < 64) = true := by rw [decide_eq_true_eq]; omega
     have hcw : wr.cell? ⟨g7, t, none⟩ = some (u (Wl.getD t 0)) := HK5i.out.cellAt (HCW.out t htl) (by show ¬ g7 = _; omega)
     have hck : wr.cell? ⟨w.heap.size + 1 + 1, t, none⟩ = some (u (kTab.getD t 0)) := by
      rw [cell_of_cells (HK5i.out.heap (HK5.out.heap HKT.out (by omega)) (by omega))]
      exact uA_at kTab t htl
     obtain ⟨R, hR⟩ : ∃ x, x = rounds S0 Wl t := ⟨_, rfl⟩
     obtain ⟨KK, hKK⟩ : ∃ x, x = kTab.getD t 0 := ⟨_, rfl⟩
     obtain ⟨WW, hWW⟩ : ∃ x, x = Wl.getD t 0 := ⟨_, rfl⟩
     have HRn : Hid (rounds S0 Wl (t + 1) = R.rnd KK WW) := by show _ = _; rw [rounds, hR, hKK, hWW]
     have hRs := HR.out
     rw [← hR] at hRs
     rw [← hKK] at hck
     rw [← hWW] at hcw
     obtain ⟨a0, a1, a2, a3, a4, a5, a6, a7⟩ := cells8 hRs
     have HRs := Lib.hid hRs
     have p1 : (0 : Int) ≤ (t : Int) := by omega
     have p2 : (t : Int) < 64 := by omega
     have p3 : (t : Int) < (c7 : Int) := by omega
     clear hRs hR hKK hWW
     go_wp2_with fail
     refine wp_region_quiet_lit (by kernel_rfl) (by kernel_rfl) ?_
     iterate 4 (go_big_quiet_step (fail))
     go_big_quiet_step ((go_at_call 99; exact Calls.quiet_of_same (turn_any _ 6 (by decide) _)))
     iterate 2 (go_big_quiet_step (fail))
     go_big_quiet_step ((go_at_call 99; exact Calls.quiet_of_same (turn_any _ 11 (by decide) _)))
     iterate 3 (go_big_quiet_step (fail))
     go_big_quiet_step ((go_at_call 99; exact Calls.quiet_of_same (turn_any _ 25 (by decide) _)))
     repeat (go_big_quiet_step (fail))
     refine wpQuiet_nil ?_
     rintro _ ⟨nq, rfl⟩
     have hD : Drawn wr (wr.drewN nq) := (Drawn.refl wr).drewN nq
     obtain ⟨wq, hwq⟩ : ∃ wq, wq = wr.drewN nq := ⟨_, rfl⟩
     rw [← hwq] at hD ⊢
     clear hwq a0 a1 a2 a3 a4 a5 a6 a7 hck hcw
     have hRq : wq.heap[w5.heap.size]? = some (.cells (uA R.list) 157 (0, 0)) := by rw [hD.heap]; exact HRs.out
     obtain ⟨a0, a1, a2, a3, a4, a5, a6, a7⟩ := cells8 hRq
     have HD := Lib.hid hD
     clear hD hRq
     go_wp2_with fail
     refine wp_region_quiet_lit (by kernel_rfl) (by kernel_rfl) ?_
     iterate 2 (go_big_quiet_step (fail))
     go_big_quiet_step ((go_at_call 99; exact Calls.quiet_of_same (turn_any _ 2 (by decide) _)))
     iterate 2 (go_big_quiet_step (fail))
     go_big_quiet_step ((go_at_call 99; exact Calls.quiet_of_same (turn_any _ 13 (by decide) _)))
     iterate 3 (go_big_quiet_step (fail))
     go_big_quiet_step ((go_at_call 99; exact Calls.quiet_of_same (turn_any _ 22 (by decide) _)))
     repeat (go_big_quiet_step (fail))
     refine wpQuiet_nil ?_
     rintro _ ⟨nq2, rfl⟩
     have hD2 : Drawn wr (wq.drewN nq2) := HD.out.drewN nq2
     obtain ⟨wz, hwz⟩ : ∃ wz, wz = wq.drewN nq2 := ⟨_, rfl⟩
     rw [← hwz] at hD2 ⊢
     clear hwz a0 a1 a2 a3 a4 a5 a6 a7
     have hRz : wz.heap[w5.heap.size]? = some (.cells (uA R.list) 157 (0, 0)) := by rw [hD2.heap]; exact HRs.out
     obtain ⟨a0, a1, a2, a3, a4, a5, a6, a7⟩ := cells8 hRz
     have bl := bld8
     have stz : ∀ x0 x1 x2 x3 x4 x5 x6 x7 : UInt32, stA 157 wz (.pointer (some ⟨w5.heap.size, 0, none⟩)) (.agg (uA [x0, x1, x2, x3, x4, x5, x6, x7])) = .ok .skip (wz.setRow w5.heap.size (uA [x0, x1, x2, x3, x4, x5, x6, x7])) := fun _ _ _ _ _ _ _ _ => stA_row hRz info39 rfl (uA_one _)
     have HD2 := Lib.hid hD2
     have HRz := Lib.hid hRz
     clear hD2 hRz
     go_wp2_with fail
     go_roundg (64 - (t + 1))
     case measure => omega
     case rel => exact ⟨t + 1, by go_num, by omega, rfl, by rw [HRn.out]; exact setRow_heap wz _ _ _ _ _ HRz.out, (HGi.out.trans (HD2.out.keep _)).trans (Keep.row _ _ _)⟩
    ·obtain rfl : t = 64 := by omega
     have hd : decide (((64 : Nat) : Int) < 64) = false := by decide
     obtain ⟨R, hR⟩ : ∃ x, x = rounds S0 Wl 64 := ⟨_, rfl⟩
     have hRs := HR.out
     rw [← hR] at hRs
     have hSt : wr.heap[w.heap.size + 1]? = some (.cells (uA (addl S0 R 0)) 157 (0, 0)) := HK5i.out.heap HS5.out (by omega)
     have hKr : Keep (fun i => i = w.heap.size + 1) w4 wr := HK5.out.step HK5i.out fun i hi => .inr (by have := HK5.out.size; omega)
     have HRR := Lib.hid hR
     have HRs := Lib.hid hRs
     have HSt := Lib.hid hSt
     have HKr := Lib.hid hKr
     clear hR hRs hSt hKr HR
     go_wp2_with fail
     go_loopg [12] 8 (fun gg i wz => ∃ k : Nat, i = .int .i64 k ∧ k ≤ 8 ∧ 8 - k = gg ∧ wz.heap[w.heap.size + 1]? = some (.cells (uA (addl S0 R k)) 157 (0, 0)) ∧ wz.heap[w5.heap.size]? = some (.cells (uA R.list) 157 (0, 0)) ∧ Keep (fun i => i = w.heap.size + 1) w4 wz)
     case atStart => exact ⟨0, rfl, by omega, by omega, HSt.out, HRs.out, HKr.out⟩
     case round =>
      clear HSt HRs HKr HK5i HGi
      obtain ⟨k, rfl, hk, rfl, hrow, hrr, hkp⟩ := hrel
      by_cases hlt8 : k < 8
      ·have hd8 : decide ((k : Int) < 8) = true := by rw [decide_eq_true_eq]; omega
       have hc : wr.cell? ⟨w.heap.size + 1, k, none⟩ = some (u (S0.list.getD k 0)) := by rw [cell_of_cells hrow, uA_at _ _ (by rw [addl_len]; omega), addl_at _ _ _ hlt8]
       have hc2 : wr.cell? ⟨w5.heap.size, k, none⟩ = some (u (R.list.getD k 0)) := by rw [cell_of_cells hrr, uA_at _ _ (by rw [s8_len]; omega)]
       have hf : wr.frozen? ⟨w.heap.size + 1, k, none⟩ = false := frozen_of_row wr _ _ _ _ hrow
       obtain ⟨XX, hXX⟩ : ∃ x, x = R.list.getD k 0 := ⟨_, rfl⟩
       obtain ⟨SS, hSS⟩ : ∃ x, x = S0.list.getD k 0 := ⟨_, rfl⟩
       have HN : Hid ((wr.setCell ⟨w.heap.size + 1, k, none⟩ (u (SS + XX))).heap[w.heap.size + 1]? = some (.cells (uA (addl S0 R (k + 1))) 157 (0, 0))) := by
        show _ = _
        rw [set_row hrow, uA_set, hSS, hXX, addl_step S0 R k hlt8]
       have HN2 : Hid ((wr.setCell ⟨w.heap.size + 1, k, none⟩ (u (SS + XX))).heap[w5.heap.size]? = some (.cells (uA R.list) 157 (0, 0))) := set_keep hrr (by omega)
       have HM2 : Hid (Keep (fun i => i = w.heap.size + 1) w4 (wr.setCell ⟨w.heap.size + 1, k, none⟩ (u (SS + XX)))) := hkp.step (Keep.cell _ _ _) fun i hi => .inl hi
       rw [← hSS] at hc
       rw [← hXX] at hc2
       have p1 : (0 : Int) ≤ (k : Int) := by omega
       have p2 : (k : Int) < 8 := by omega
       clear hXX hSS hrow hrr hkp
       go_wp2_with fail
       refine wp_region_drawn_tail 8 (by kernel_rfl) (by kernel_rfl) ?_
       simp only [List.take_succ_cons, List.take_zero, List.drop_succ_cons, List.drop_zero]
       repeat (go_big_quiet_step (fail))
       refine wpQuiet_nil ?_
       rintro _ ⟨nq3, rfl⟩
       go_wp2_with fail
       go_roundg (8 - (k + 1))
       case measure => omega
       case rel => exact ⟨k + 1, by go_num, by omega, rfl, HN.out, HN2.out, HM2.out.drewN nq3⟩
      ·obtain rfl : k = 8 := by omega
       have hd8 : decide (((8 : Nat) : Int) < 8) = false := by decide
       rw [addl_end, HRR.out, HS0.out, HWl.out, blks_step P sub j HSB.out] at hrow
       have HN := Lib.hid hrow
       have HM2 := Lib.hid hkp
       clear hrow hrr hkp
       go_wp2_with fail
       go_roundg (M - (j + 1))
       case measure => omega
       case rel => exact ⟨j + 1, by congr 1, by omega, rfl, HN.out, HM2.out⟩
  ·obtain rfl : j = M := by omega
   have hd : decide ((64 : Int) * (j : Int) < 64 * (j : Int)) = false := by rw [decide_eq_false_iff_not]; omega
   obtain ⟨S, hS⟩ : ∃ x, x = blks P j := ⟨_, rfl⟩
   have hst := HS.out
   rw [← hS] at hst
   have HSS := Lib.hid hS
   have HST := Lib.hid hst
   clear hS hst HS
   go_wp2_with fail
   have hr1 : (wr.alloc (.cells (bA z26) 45)).heap[wr.heap.size]? = some (.cells (bA (outq S 0)) 45 (0, 0)) := by rw [outq_zero]; exact heap_alloc_new wr _
   have hk1 : Keep (fun i => i = w.heap.size + 1) w4 (wr.alloc (.cells (bA z26) 45)) := HK.out.alloc _
   have hs1 : (wr.alloc (.cells (bA z26) 45)).heap[w.heap.size + 1]? = some (.cells (uA S.list) 157 (0, 0)) := by rw [Below.heap_alloc _ _ _ (lt_of_heap HST.out)]; exact HST.out
   have hszr : w.heap.size + 3 ≤ wr.heap.size := by have := HK.out.size; omega
   have HSZ6 : Hid (w4.heap.size ≤ wr.heap.size) := HK.out.size
   have HR1 := Lib.hid hr1
   have HK1 := Lib.hid hk1
   have HS1 := Lib.hid hs1
   clear hr1 hk1 hs1 HST HK
   obtain ⟨w6, rfl⟩ : ∃ w6 : World, w6 = wr := ⟨_, rfl⟩
   go_loopg [14] 32 (fun gg i wz => ∃ k : Nat, i = .int .i64 k ∧ k ≤ 32 ∧ 32 - k = gg ∧ wz.heap[w6.heap.size]? = some (.cells (bA (outq S k)) 45 (0, 0)) ∧ wz.heap[w.heap.size + 1]? = some (.cells (uA S.list) 157 (0, 0)) ∧ Keep (fun i => i = w.heap.size + 1) w4 wz)
   case atStart => exact ⟨0, rfl, by omega, by omega, HR1.out, HS1.out, HK1.out⟩
   case round =>
    clear HR1 HK1 HS1
    obtain ⟨k, rfl, hk, rfl, hrow, hst, hkp⟩ := hrel
    by_cases hlt : k < 32
    ·have hd2 : decide ((k : Int) < 32) = true := by rw [decide_eq_true_eq]; omega
     obtain ⟨X, hX⟩ : ∃ X, X = S.list.getD (k / 4) 0 := ⟨_, rfl⟩
     have hc : wr.cell? ⟨w.heap.size + 1, k / 4, none⟩ = some (u X) := by rw [hX, cell_of_cells hst, uA_at _ _ (by rw [s8_len]; omega)]
     have hc2 : wr.cell? ⟨w6.heap.size, k, none⟩ = some (bv ((outq S k).getD k 0)) := by rw [cell_of_cells hrow, bA_at _ _ (by rw [outq_len]; omega)]
     obtain ⟨old, hold⟩ : ∃ x, x = (outq S k).getD k 0 := ⟨_, rfl⟩
     rw [← hold] at hc2
     have hf : wr.frozen? ⟨w6.heap.size, k, none⟩ = false := frozen_of_row wr _ _ _ _ hrow
     obtain ⟨Y, hY⟩ : ∃ Y, Y = X >>> UInt32.ofNat (24 - 8 * (k % 4)) := ⟨_, rfl⟩
     have hsh : ∀ v, (binOp .shr 156 (u X) (.int .u64 (24 - 8 * ((k : Int) % 4)))).run Tryz.prog v = .ok (u Y) v := fun v => by
      rw [hY, show (24 - 8 * ((k : Int) % 4)) = ((24 - 8 * (k % 4) : Nat) : Int) by omega]; exact shr_u X _ (by omega) v
     have hb : (outB S).getD k 0 = UInt8.ofNat Y.toNat := by
      have e := outB_at S (k / 4) (k % 4) (by omega) (by omega)
      rw [show 4 * (k / 4) + k % 4 = k by omega] at e
      rw [e, hY, shr_toNat _ _ (by omega), hX, show 8 * (4 - 1 - k % 4) = 24 - 8 * (k % 4) by omega]
     have HN : Hid ((wr.setCell ⟨w6.heap.size, k, none⟩ (.int .u8 ((UInt8.ofNat Y.toNat).toNat : Int))).heap[w6.heap.size]? = some (.cells (bA (outq S (k + 1))) 45 (0, 0))) := by
      show _ = _
      rw [set_row hrow, ← outq_step S k hlt, hb]
      exact congrArg (fun z => some (Obj.cells z 45)) (bA_set _ _ _)
     have HN2 : Hid ((wr.setCell ⟨w6.heap.size, k, none⟩ (.int .u8 ((UInt8.ofNat Y.toNat).toNat : Int))).heap[w.heap.size + 1]? = some (.cells (uA S.list) 157 (0, 0))) := set_keep hst (by omega)
     have HM2 : Hid (Keep (fun i => i = w.heap.size + 1) w4 (wr.setCell ⟨w6.heap.size, k, none⟩ (.int .u8 ((UInt8.ofNat Y.toNat).toNat : Int)))) := hkp.step (Keep.cell _ _ _) fun i hi => .inr (by rw [hi]; exact HSZ6.out)
     clear hX hold hY hb hrow hst hkp
     have p1 : (0 : Int) ≤ (k : Int) := by omega
     have p2 : (k : Int) < 32 := by omega
     have q1 : (0 : Int) ≤ (k : Int) / 4 := by omega
     have q2 : (k : Int) / 4 < 8 := by omega
     have q3 : ((k : Int) / 4).toNat = k / 4 := by omega
     have m1 : (0 : Int) ≤ (k : Int) % 4 := by omega
     have m2 : (k : Int) % 4 ≤ 3 := by omega
     go_wp2_with fail
     go_roundg (32 - (k + 1))
     case measure => omega
     case rel => exact ⟨k + 1, by go_num, by omega, rfl, HN.out, HN2.out, HM2.out⟩
    ·obtain rfl : k = 32 := by omega
     have hd2 : decide (((32 : Nat) : Int) < 32) = false := by decide
     have hsum : outB S = sumL l := by rw [HSS.out, HP.out, sumL_eq, stOf, ← HP.out, HPl.out, Nat.mul_div_cancel_left _ (by decide)]
     rw [outq_end, hsum] at hrow
     have ld1 : ldA 45 wr (.pointer (some ⟨w6.heap.size, 0, none⟩)) = .ok (.value (.agg (bA (sumL l)))) wr := ldA_row hrow Tryz.underlying45 (by rw [bA_size, sumL_len]; exact info26)
     have hres : wr.heap[w.heap.size]? = some (.cells (bA z26) 45 (0, 0)) := hkp.heap HRES.out (by omega)
     have st1 : stA 45 wr (.pointer (some ⟨w.heap.size, 0, none⟩)) (.agg (bA (sumL l))) = .ok .skip (wr.setRow w.heap.size (bA (sumL l))) := stA_row hres (by rw [bA_size, sumL_len]; exact info26) (by rw [bA_size, bA_size, sumL_len]; rfl) (bA_one _)
     have HMr := Lib.hid (setRow_heap wr w.heap.size _ (bA (sumL l)) _ _ hres)
     have HBW : Hid (Below w.heap.size w (wr.setRow w.heap.size (bA (sumL l)))) := below_setRow ((HK4.out.step hkp fun i hi => .inr (by omega)).below (Nat.le_refl _) fun _ h => h.elim) (Nat.le_refl _) _
     clear hrow hst hkp hres hsum
     go_wp2_with fail
     refine bodyPost_ret (v := .agg (bA (sumL l))) ?_ rfl ⟨rfl, HBW.out⟩
     exact results_cell_row Tryz.results75 _ _ w.heap.size 45 _ (0, 0) _ rfl HMr.out Tryz.underlying45 rfl (by rw [bA_size, sumL_len]; exact info26)
end
end Go.Proofs.YtmfbhohjpkmllaaGreatDoor
