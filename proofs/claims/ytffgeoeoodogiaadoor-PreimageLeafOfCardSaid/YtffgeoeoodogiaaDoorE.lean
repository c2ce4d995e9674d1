/- The program's put, Blocks, right. -/
import Derived.Test.YtffgeoeoodogiaaDoorD
import Derived.IntWalk
namespace Go.Proofs.YtffgeoeoodogiaaDoor
open Go.RowKit

theorem ret_u {a b : UInt32} (h : a = b) : Ending.returned (u a) = .returned (u b) := by rw [h]

/-! ### put -/
/-- The places o + lo .. o + n - 1 of a row laid over. -/
def ovr (cs : Array Value) (o n : Nat) (f : Nat → Value) (lo : Nat) : Array Value := cs.mapIdx fun j v => if o + lo ≤ j ∧ j < o + n then f (j - o) else v
theorem ovr_size (cs : Array Value) (o n : Nat) (f : Nat → Value) (lo : Nat) : (ovr cs o n f lo).size = cs.size := by simp [ovr]
theorem ovr_none (cs : Array Value) (o n : Nat) (f : Nat → Value) : ovr cs o n f n = cs := by
  apply Array.ext_getElem?
  intro i
  simp only [ovr, Array.getElem?_mapIdx]
  cases h : cs[i]? with
  | none => rfl
  | some v => simp only [Option.map_some]; rw [if_neg (by omega)]
theorem ovr_set (cs : Array Value) (o n : Nat) (f : Nat → Value) (lo : Nat) (h : lo < n) : (ovr cs o n f (lo + 1)).setIfInBounds (o + lo) (f lo) = ovr cs o n f lo := by
  apply Array.ext_getElem?
  intro i
  rw [Array.getElem?_setIfInBounds, ovr_size]
  simp only [ovr, Array.getElem?_mapIdx]
  by_cases e : o + lo = i
  · subst e
    by_cases hl : o + lo < cs.size
    · simp [hl, h]
    · simp [hl]
  · rw [if_neg e]
    cases hv : cs[i]? with
    | none => rfl
    | some v =>
      simp only [Option.map_some]
      by_cases hc : o + lo ≤ i ∧ i < o + n
      · rw [if_pos (by omega), if_pos hc]
      · rw [if_neg (by omega), if_neg hc]
theorem ovr_at (cs : Array Value) (o n : Nat) (f : Nat → Value) (lo j : Nat) (h : o + lo ≤ j) (h2 : j < o + n) (h3 : j < cs.size) : (ovr cs o n f lo)[j]? = some (f (j - o)) := by
  simp [ovr, h3, h, h2]
theorem ovr_other (cs : Array Value) (o n : Nat) (f : Nat → Value) (lo j : Nat) (h : ¬ (o + lo ≤ j ∧ j < o + n)) : (ovr cs o n f lo)[j]? = cs[j]? := by
  simp only [ovr, Array.getElem?_mapIdx]
  cases hv : cs[j]? with
  | none => rfl
  | some v => simp only [Option.map_some]; rw [if_neg h]
/-- The byte with the number j of n bytes of X. -/
def pb (n X j : Nat) : Value := bv (UInt8.ofNat (X / 2 ^ (8 * (n - 1 - j))))
set_option maxHeartbeats 4000000 in
set_option maxRecDepth 100000 in
theorem put_c (g o n c X : Nat) (cs : Array Value) (T : TypeId) (w : World) (hg : w.heap[g]? = some (.cells cs T (0, 0))) (hn : n ≤ 8) (hs : o + n ≤ cs.size) :
    Calls Tryd.prog 44 #[.slice (some ⟨g, o, none⟩) n c, .int .u64 (X : Int)] w fun e w' => e = .returned (.tuple #[]) ∧ w' = w.setRow g (ovr cs o n (pb n X) 0) := by
  have HG := Lib.hid hg
  have H0 : Hid (w = w.setRow g (ovr cs o n (pb n X) (n - 0))) := by
    show w = _
    rw [Nat.sub_zero, ovr_none, setRow_self w g cs T _ hg]
  clear hg
  go_enter Tryd.func44, Tryd.ntmps44
  go_wp2
  go_loopg [7] n (fun gg i wr => ∃ k : Nat, i = .int .i64 k ∧ k ≤ n ∧ n - k = gg ∧ Hid (wr = w.setRow g (ovr cs o n (pb n X) (n - k))))
  case atStart => exact ⟨0, rfl, by omega, by omega, H0⟩
  case round =>
    obtain ⟨k, rfl, hk, rfl, hW⟩ := hrel
    by_cases hlt : k < n
    · have hrow : wr.heap[g]? = some (.cells (ovr cs o n (pb n X) (n - k)) T (0, 0)) := by rw [hW.out]; exact setRow_heap w g cs _ T _ HG.out
      have hcell : wr.cell? ⟨g, o + (n - 1 - k), none⟩ = some ((ovr cs o n (pb n X) (n - k))[o + (n - 1 - k)]'(by rw [ovr_size]; omega)) := by
        rw [cell_of_cells hrow]; exact Array.getElem?_eq_getElem _
      have hfz : wr.frozen? ⟨g, o + (n - 1 - k), none⟩ = false := frozen_of_row wr g _ _ _ hrow
      obtain ⟨old, hold⟩ : ∃ v, v = (ovr cs o n (pb n X) (n - k))[o + (n - 1 - k)]'(by rw [ovr_size]; omega) := ⟨_, rfl⟩
      rw [← hold] at hcell
      have HN : Hid (wr.setCell ⟨g, o + (n - 1 - k), none⟩ (pb n X (n - 1 - k)) = w.setRow g (ovr cs o n (pb n X) (n - (k + 1)))) := by
        show _ = _
        rw [setCell_eq_setRow wr g _ _ T (0, 0) _ hrow, hW.out, setRow_setRow, show n - (k + 1) = n - 1 - k by omega, ← ovr_set cs o n (pb n X) (n - 1 - k) (by omega), show n - 1 - k + 1 = n - k by omega]
      clear hold hrow
      have HV : Hid (pb n X (n - 1 - k) = .int .u8 ((X : Int) / 2 ^ (8 * k) % 256)) := by
        show _ = _
        rw [pb, show n - 1 - (n - 1 - k) = k by omega, bv]
        congr 1
      have w1 : IntKind.i64.wrap ((n : Int) - 1) = (n : Int) - 1 := IntWalk.i64_in _ (by omega)
      have w2 : IntKind.i64.wrap ((n : Int) - 1 - (k : Int)) = (n : Int) - 1 - (k : Int) := IntWalk.i64_in _ (by omega)
      have w3 : IntKind.i64.wrap (8 * (k : Int)) = 8 * (k : Int) := IntWalk.i64_in _ (by omega)
      have p2 : (0 : Int) ≤ (n : Int) - 1 - (k : Int) := by omega
      have q2 : (n : Int) - 1 - (k : Int) < (n : Int) := by omega
      have n2 : ((n : Int) - 1 - (k : Int)).toNat = n - 1 - k := by omega
      go_wp2_with fail
      go_roundg (n - (k + 1))
      case measure => omega
      case rel => exact ⟨k + 1, by go_num, by omega, rfl, by rw [← HV.out]; exact HN⟩
    · obtain rfl : k = n := by omega
      go_wp2_with fail
      go_end0
      exact ⟨rfl, by have := hW.out; rw [Nat.sub_self] at this; exact this⟩

/-! ### right -/
theorem and31 (n : Fin 32) (h : 0 < n.val) : bits BinOp.and IntKind.u64 (IntKind.u64.wrap (-(n.val : Int))) 31 = ((32 - n.val : Nat) : Int) := by
  revert n; decide +kernel
set_option maxRecDepth 100000 in
theorem rotl_c (x : UInt32) (n : Nat) (h : 0 < n) (h2 : n < 32) (w : World) : Calls Tryd.prog 46 #[u x, .int .i64 (-(n : Int))] w fun e w' => e = .returned (u (rotr x n)) ∧ w' = w := by
  have hb := and31 ⟨n, h2⟩ h
  obtain ⟨m, hm⟩ : ∃ m, m = 32 - n := ⟨_, rfl⟩
  have hr : rotr x n = (x <<< UInt32.ofNat m) ||| (x >>> UInt32.ofNat n) := by rw [hm, rotr, UInt32.or_comm]
  have HR := Lib.hid hr
  simp only [← hm] at hb
  have a3 := fun w => shl_u x m (by omega) w
  have a4 : ∀ w, (binOp .shr 61 (u x) (.int .u64 (32 - (m : Int)))).run Tryd.prog w = .ok (u (x >>> UInt32.ofNat n)) w := fun w => by
    rw [show (32 - (m : Int)) = (n : Int) by omega]; exact shr_u x n h2 w
  have b1 : 0 < m := by omega
  have b2 : m < 32 := by omega
  clear hr hm
  go_enter Tryd.func46, Tryd.ntmps46
  go_wp2
  go_ret
  exact ⟨ret_u HR.out.symm, rfl⟩
set_option maxRecDepth 100000 in
theorem right_c (x : UInt32) (n : Nat) (h : 0 < n) (h2 : n < 32) (w : World) : Calls Tryd.prog 42 #[u x, .int .i64 (n : Int)] w fun e w' => e = .returned (u (rotr x n)) ∧ w' = w := by
  go_enter Tryd.func42, Tryd.ntmps42
  go_wp2_with (go_at_call 46; refine (rotl_c x n h h2 _).mono ?_; rintro e w' ⟨rfl, rfl⟩)
  go_ret
  exact ⟨rfl, rfl⟩
theorem right_any (x : UInt32) (n : Int) (h : 0 < n ∧ n < 32) (w : World) : Calls Tryd.prog 42 #[u x, .int .i64 n] w fun e w' => e = .returned (u (rotrI x n)) ∧ w' = w := by
  have := right_c x n.toNat (by omega) (by omega) w
  rwa [show ((n.toNat : Nat) : Int) = n by omega] at this

/-! ### Blocks -/
def blocksI (n : Int) : Int := if n < 0 ∨ 1152921504606846976 < n then 0 else (n + 72) / 64
set_option maxRecDepth 100000 in
theorem blocks_c (n : Int) (w : World) (h1 : -9223372036854775808 ≤ n) (h2 : n ≤ 9223372036854775807) : Calls Tryd.prog 43 #[.int .i64 n] w fun e w' => e = .returned (.int .i64 (blocksI n)) ∧ w = w' := by
  by_cases a : n < 0
  · have hb : Hid (blocksI n = 0) := if_pos (.inl a)
    have hd : decide (n < 0) = true := decide_eq_true a
    go_enter Tryd.func43, Tryd.ntmps43
    go_wp2
    go_ret
    exact ⟨ret_int (by rw [hb.out]), rfl⟩
  · have hd : decide (n < 0) = false := decide_eq_false a
    by_cases b : 1152921504606846976 < n
    · have hb : Hid (blocksI n = 0) := if_pos (.inr b)
      have hd2 : decide (1152921504606846976 < n) = true := decide_eq_true b
      go_enter Tryd.func43, Tryd.ntmps43
      go_wp2
      go_ret
      exact ⟨ret_int (by rw [hb.out]), rfl⟩
    · have hb : Hid (blocksI n = (n + 72) / 64) := if_neg (by omega)
      have hd2 : decide (1152921504606846976 < n) = false := decide_eq_false b
      have p0 : 0 ≤ n := by omega
      have p1 : n ≤ 1152921504606846976 := by omega
      go_enter Tryd.func43, Tryd.ntmps43
      go_wp2
      go_ret
      exact ⟨ret_int (by rw [hb.out]; omega), rfl⟩
end Go.Proofs.YtffgeoeoodogiaaDoor
