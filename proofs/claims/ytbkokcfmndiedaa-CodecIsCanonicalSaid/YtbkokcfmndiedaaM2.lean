/- Several texts in one: D E F G H I J K La Ma P. -/
import Derived.Test.YtbkokcfmndiedaaM1
import Derived.Deep.WholeRow
import Derived.Test.YtbkokcfmndiedaaTail
import Derived.Deep.MidRow
import Derived.Laws.CopyOwn
import Derived.IntWalk
import Derived.Deep.QuietTactic
import Derived.StillTailTactics
import Derived.Laws.MakeOwn
import Derived.Lib.AppendZeros
import Derived.Deep.RegionHeld3
import Derived.Lib.SlBytesConst
/- Whole arrays stay folded: load, store, index of an array whose cells are one array; what a call may write. -/
namespace Go.Proofs.Ytbkokcfmndiedaa
open Go.RowKit

attribute [go_sem] u_one
@[go_sem] theorem run_store_u (w : World) (a : Addr) (x : UInt32) (m : Mode) : (store a (u x) m).run Try.prog w = stored Try.prog w a (u x) m := run_store Try.prog w a _ m rfl
noncomputable def stU (w : World) (p v : Value) : Result Next := Sem.run Try.prog (do Instr.storeAt 77 p v; pure .skip) w
@[go_sem ↓] theorem execOp_store38 (ρ : Operand → Value) (dst : Option Tmp) (x y : Operand) (type : TypeId) (pos : String) (after : Array Edge) (guard : Option (Nat × Bool)) (w : World) :
    Sem.run Try.prog (execOp ρ { dst, op := .store 77 x y, type, pos, after, guard }) w = stU w (ρ x) (ρ y) := rfl
@[go_sem] theorem stU_u (w : World) (g j : Nat) (x : UInt32) : stU w (.pointer (some ⟨g, j, none⟩)) (u x) = ((store ⟨g, j, none⟩ (u x)).run Try.prog w).andThen fun _ w' => .ok .skip w' := by
  obtain ⟨i0, hi, hz0, hz1, hz2⟩ := info_parts info38
  have hadd : (⟨g, j, none⟩ : Addr).add 0 = ⟨g, j, none⟩ := by unfold Addr.add; split <;> simp_all
  have hs : (sizeOf 77).run Try.prog w = .ok 1 w := by simp [sizeOf, typeInfo, hi, hz1]
  have hc : (u x).cells = #[u x] := rfl
  unfold stU
  simp [Instr.storeAt, Instr.sureAddr, storeVar, hs, hc, storeCells, hadd]
def uA (l : List UInt32) : Array Value := (l.map u).toArray
theorem uA_size (l : List UInt32) : (uA l).size = l.length := by simp [uA]
theorem uA_one (l : List UInt32) : (uA l).all (·.oneCell') = true := by simp [uA, u, Value.oneCell']
theorem uA_at (l : List UInt32) (j : Nat) (h : j < l.length) : (uA l)[j]? = some (u (l.getD j 0)) := by simp [uA, List.getD_eq_getElem?_getD, h]
theorem uA_set (l : List UInt32) (j : Nat) (x : UInt32) : (uA l).setIfInBounds j (u x) = uA (l.set j x) := by
  apply Array.toList_inj.1
  simp [uA, List.map_set]
theorem size38 (w : World) : (sizeOf 77).run Try.prog w = .ok 1 w := by
  obtain ⟨i0, hi, hz0, hz1, hz2⟩ := info_parts info38
  simp [sizeOf, typeInfo, hi, hz1]
end Go.Proofs.Ytbkokcfmndiedaa

/- The program's put, Blocks, right. -/
namespace Go.Proofs.Ytbkokcfmndiedaa
open Go.RowKit

theorem ret_u {a b : UInt32} (h : a = b) : Ending.returned (u a) = .returned (u b) := by rw [h]

/-! ### put -/
/-- The places o + lo .. o + n - 1 of a row laid over. -/
def ovr (cs : Array Value) (o n : Nat) (f : Nat → Value) (lo : Nat) : Array Value := cs.mapIdx fun j v => if o + lo ≤ j ∧ j < o + n then f (j - o) else v
theorem ovr_size (cs : Array Value) (o n : Nat) (f : Nat → Value) (lo : Nat) : (ovr cs o n f lo).size = cs.size := by simp [ovr]
theorem ovr_none (cs : Array Value) (o n : Nat) (f : Nat → Value) : ovr cs o n f n = cs := by
  apply Array.ext_getElem?
  intro i
  simp only [ovr, Array.getElem?_mapIdx]
  cases h : cs[i]? with
  | none => rfl
  | some v => simp only [Option.map_some]; rw [if_neg (by omega)]
theorem ovr_set (cs : Array Value) (o n : Nat) (f : Nat → Value) (lo : Nat) (h : lo < n) : (ovr cs o n f (lo + 1)).setIfInBounds (o + lo) (f lo) = ovr cs o n f lo := by
  apply Array.ext_getElem?
  intro i
  rw [Array.getElem?_setIfInBounds, ovr_size]
  simp only [ovr, Array.getElem?_mapIdx]
  by_cases e : o + lo = i
  · subst e
    by_cases hl : o + lo < cs.size
    · simp [hl, h]
    · simp [hl]
  · rw [if_neg e]
    cases hv : cs[i]? with
    | none => rfl
    | some v =>
      simp only [Option.map_some]
      by_cases hc : o + lo ≤ i ∧ i < o + n
      · rw [if_pos (by omega), if_pos hc]
      · rw [if_neg (by omega), if_neg hc]
theorem ovr_at (cs : Array Value) (o n : Nat) (f : Nat → Value) (lo j : Nat) (h : o + lo ≤ j) (h2 : j < o + n) (h3 : j < cs.size) : (ovr cs o n f lo)[j]? = some (f (j - o)) := by
  simp [ovr, h3, h, h2]
theorem ovr_other (cs : Array Value) (o n : Nat) (f : Nat → Value) (lo j : Nat) (h : ¬ (o + lo ≤ j ∧ j < o + n)) : (ovr cs o n f lo)[j]? = cs[j]? := by
  simp only [ovr, Array.getElem?_mapIdx]
  cases hv : cs[j]? with
  | none => rfl
  | some v => simp only [Option.map_some]; rw [if_neg h]
/-- The byte with the number j of n bytes of X. -/
def pb (n X j : Nat) : Value := bv (UInt8.ofNat (X / 2 ^ (8 * (n - 1 - j))))
/-! ### right -/
theorem and31 (n : Fin 32) (h : 0 < n.val) : bits BinOp.and IntKind.u64 (IntKind.u64.wrap (-(n.val : Int))) 31 = ((32 - n.val : Nat) : Int) := by
  revert n; decide +kernel
/-! ### Blocks -/
def blocksI (n : Int) : Int := if n < 0 ∨ 1152921504606846976 < n then 0 else (n + 72) / 64
end Go.Proofs.Ytbkokcfmndiedaa

/- The program's schedule. -/
namespace Go.Proofs.Ytbkokcfmndiedaa
open Go.RowKit

def z58 : List UInt32 := List.replicate 64 0
/-- The words while the bytes of a block are read. -/
def wl (b : Nat → UInt8) (n : Nat) : List UInt32 := (List.range 64).map (accw b n)
theorem wl_len (b : Nat → UInt8) (n : Nat) : (wl b n).length = 64 := by simp [wl]
theorem wl_at (b : Nat → UInt8) (n t : Nat) (h : t < 64) : (wl b n).getD t 0 = accw b n t := by simp [wl, List.getD_eq_getElem?_getD, h]
theorem wl_zero (b : Nat → UInt8) : wl b 0 = z58 := by
  unfold wl z58
  apply List.ext_getElem?
  intro i
  rcases Nat.lt_or_ge i 64 with h | h
  · rw [List.getElem?_replicate, if_pos h, List.getElem?_map, List.getElem?_range h, Option.map_some, accw_zero]
  · rw [List.getElem?_eq_none (by simpa using h), List.getElem?_eq_none (by simpa using h)]
theorem wl_step (b : Nat → UInt8) (n : Nat) (h : n < 64) : (wl b n).set (n / 4) ((accw b n (n / 4) <<< 8) ||| (b n).toUInt32) = wl b (n + 1) := by
  apply List.ext_getElem?
  intro i
  rw [List.getElem?_set]
  by_cases e : n / 4 = i
  · subst e
    simp [wl, show n / 4 < 64 by omega, accw_here]
  · rw [if_neg e]
    rcases Nat.lt_or_ge i 64 with h2 | h2
    · simp [wl, h2, accw_other b n i (fun x => e x.symm)]
    · rw [List.getElem?_eq_none (by simpa [wl] using h2), List.getElem?_eq_none (by simpa [wl] using h2)]
/-- The words while the schedule is extended: those below i. -/
def sl (b : Nat → UInt8) (i : Nat) : List UInt32 := (List.range 64).map fun t => if t < i then sw b t else 0
theorem sl_len (b : Nat → UInt8) (n : Nat) : (sl b n).length = 64 := by simp [sl]
theorem sl_at (b : Nat → UInt8) (n t : Nat) (h : t < 64) (h2 : t < n) : (sl b n).getD t 0 = sw b t := by simp [sl, List.getD_eq_getElem?_getD, h, h2]
theorem sl_start (b : Nat → UInt8) : wl b 64 = sl b 16 := by
  unfold wl sl
  refine List.map_congr_left fun t ht => ?_
  have : t < 64 := by simpa using ht
  by_cases h : t < 16
  · rw [if_pos h, accw_end b t h, sw_word b t h]
  · rw [if_neg h, accw, show min 4 (64 - 4 * t) = 0 by omega, acc]
theorem sl_step (b : Nat → UInt8) (i : Nat) (h : i < 64) : (sl b i).set i (sw b i) = sl b (i + 1) := by
  apply List.ext_getElem?
  intro t
  rw [List.getElem?_set]
  by_cases e : i = t
  · subst e
    simp [sl, h]
  · rw [if_neg e]
    rcases Nat.lt_or_ge t 64 with h2 | h2
    · simp only [sl, List.getElem?_map, List.getElem?_range h2, Option.map_some]
      by_cases h3 : t < i
      · rw [if_pos h3, if_pos (by omega)]
      · rw [if_neg h3, if_neg (by omega)]
    · rw [List.getElem?_eq_none (by simpa [sl] using h2), List.getElem?_eq_none (by simpa [sl] using h2)]
theorem sl_end (b : Nat → UInt8) : sl b 64 = sched b := by
  apply List.ext_getElem?
  intro t
  rcases Nat.lt_or_ge t 64 with h2 | h2
  · simp [sl, h2, sw, sched_len]
  · rw [List.getElem?_eq_none (by simpa [sl] using h2), List.getElem?_eq_none (by rw [sched_len]; exact h2)]

@[go_sem high] theorem conv_bu (x : UInt8) (w : World) : (convert 5 77 (bv x)).run Try.prog w = .ok (u x.toUInt32) w := conv_u x w
end Go.Proofs.Ytbkokcfmndiedaa

/- The program's (*state).add. -/
namespace Go.Proofs.Ytbkokcfmndiedaa
open Go.RowKit

def z39 : List UInt32 := List.replicate 8 0
theorem s8_len (s : S8) : s.list.length = 8 := rfl
theorem uS_size (s : S8) : (uA s.list).size = 8 := rfl
/-- The words while those of x are added, i of them. -/
def addl (s x : S8) (i : Nat) : List UInt32 := (List.range 8).map fun j => if j < i then s.list.getD j 0 + x.list.getD j 0 else s.list.getD j 0
theorem addl_len (s x : S8) (i : Nat) : (addl s x i).length = 8 := by simp [addl]
theorem addl_zero (s x : S8) : addl s x 0 = s.list := rfl
theorem addl_end (s x : S8) : addl s x 8 = (s.add x).list := rfl
theorem addl_at (s x : S8) (i : Nat) (h : i < 8) : (addl s x i).getD i 0 = s.list.getD i 0 := by simp [addl, List.getD_eq_getElem?_getD, h]
theorem addl_step (s x : S8) (i : Nat) (h : i < 8) : (addl s x i).set i (s.list.getD i 0 + x.list.getD i 0) = addl s x (i + 1) := by
  apply List.ext_getElem?
  intro t
  rw [List.getElem?_set]
  by_cases e : i = t
  · subst e
    rw [if_pos rfl, addl_len, if_pos h]
    simp only [addl, List.getElem?_map, List.getElem?_range h, Option.map_some]
    rw [if_pos (by omega)]
  · rw [if_neg e]
    rcases Nat.lt_or_ge t 8 with h2 | h2
    · simp only [addl, List.getElem?_map, List.getElem?_range h2, Option.map_some]
      by_cases h3 : t < i
      · rw [if_pos h3, if_pos (by omega)]
      · rw [if_neg h3, if_neg (by omega)]
    · rw [List.getElem?_eq_none (by simpa [addl] using h2), List.getElem?_eq_none (by simpa [addl] using h2)]
end Go.Proofs.Ytbkokcfmndiedaa

/- The program's (*state).digest. -/
namespace Go.Proofs.Ytbkokcfmndiedaa
open Go.RowKit

theorem outB_at (s : S8) (k j : Nat) (hk : k < 8) (hj : j < 4) : (outB s).getD (4 * k + j) 0 = UInt8.ofNat ((s.list.getD k 0).toNat / 2 ^ (8 * (4 - 1 - j))) := by
  have h8 : k = 0 ∨ k = 1 ∨ k = 2 ∨ k = 3 ∨ k = 4 ∨ k = 5 ∨ k = 6 ∨ k = 7 := by omega
  have h4 : j = 0 ∨ j = 1 ∨ j = 2 ∨ j = 3 := by omega
  rcases h8 with rfl | rfl | rfl | rfl | rfl | rfl | rfl | rfl <;> (rcases h4 with rfl | rfl | rfl | rfl <;> rfl)
/-- The digest while its words are laid, k of them. -/
def outp (s : S8) (k : Nat) : List UInt8 := (List.range 32).map fun j => if j < 4 * k then (outB s).getD j 0 else 0
theorem outp_len (s : S8) (k : Nat) : (outp s k).length = 32 := by simp [outp]
theorem outp_zero (s : S8) : outp s 0 = z26 := by
  unfold outp z26
  apply List.ext_getElem?
  intro i
  rcases Nat.lt_or_ge i 32 with h | h
  · rw [List.getElem?_replicate, if_pos h, List.getElem?_map, List.getElem?_range h, Option.map_some, if_neg (by omega)]
  · rw [List.getElem?_eq_none (by simpa using h), List.getElem?_eq_none (by simpa using h)]
theorem outp_end (s : S8) : outp s 8 = outB s := by
  apply List.ext_getElem?
  intro i
  rcases Nat.lt_or_ge i 32 with h | h
  · have := outB_len s
    simp [outp, h, List.getD_eq_getElem?_getD, show i < (outB s).length by omega]
  · rw [List.getElem?_eq_none (by simpa [outp] using h), List.getElem?_eq_none (by rw [outB_len]; exact h)]
theorem outp_step (s : S8) (k : Nat) (hk : k < 8) : ovr (bA (outp s k)) (4 * k) 4 (pb 4 (s.list.getD k 0).toNat) 0 = bA (outp s (k + 1)) := by
  apply Array.ext_getElem?
  intro i
  by_cases h : 4 * k + 0 ≤ i ∧ i < 4 * k + 4
  · rw [ovr_at _ _ _ _ _ _ h.1 h.2 (by rw [bA_size, outp_len]; omega), bA_at _ _ (by rw [outp_len]; omega)]
    have e := outB_at s k (i - 4 * k) hk (by omega)
    rw [show 4 * k + (i - 4 * k) = i by omega] at e
    simp only [outp, List.getD_eq_getElem?_getD, List.getElem?_map, List.getElem?_range (show i < 32 by omega), Option.map_some, Option.getD_some]
    rw [List.getD_eq_getElem?_getD] at e
    rw [if_pos (by omega), e]
    rfl
  · rw [ovr_other _ _ _ _ _ _ h]
    rcases Nat.lt_or_ge i 32 with h2 | h2
    · rw [bA_at _ _ (by rw [outp_len]; exact h2), bA_at _ _ (by rw [outp_len]; exact h2)]
      simp only [outp, List.getD_eq_getElem?_getD, List.getElem?_map, List.getElem?_range h2, Option.map_some, Option.getD_some]
      by_cases h3 : i < 4 * k
      · rw [if_pos h3, if_pos (by omega)]
      · rw [if_neg h3, if_neg (by omega)]
    · rw [Array.getElem?_eq_none (by rw [bA_size, outp_len]; exact h2), Array.getElem?_eq_none (by rw [bA_size, outp_len]; exact h2)]

end Go.Proofs.Ytbkokcfmndiedaa

/- The program's inBlocks and the function that it returns. -/
namespace Go.Proofs.Ytbkokcfmndiedaa
open Go.RowKit

def z56 : List UInt8 := List.replicate 64 0
def Wr (pB pF sb : Nat) (i : Nat) : Prop := i = pB ∨ i = pF ∨ i = sb
theorem stream_step (T d r : List UInt8) (lb : List UInt8) (n : Nat) (hl : lb.length = 64) (hlb : lb.take ((T ++ d).length % 64) = left (T ++ d)) (hn : n ≤ r.length) (hf : (T ++ d).length % 64 + n ≤ 64) :
    (lb.take ((T ++ d).length % 64) ++ (r.take n ++ lb.drop ((T ++ d).length % 64 + n))).length = 64 ∧
    ((T ++ d).length % 64 + n < 64 → (T ++ (d ++ r.take n)).length % 64 = (T ++ d).length % 64 + n ∧ stOf (T ++ (d ++ r.take n)) = stOf (T ++ d) ∧ (lb.take ((T ++ d).length % 64) ++ (r.take n ++ lb.drop ((T ++ d).length % 64 + n))).take ((T ++ d).length % 64 + n) = left (T ++ (d ++ r.take n))) ∧
    ((T ++ d).length % 64 + n = 64 → (T ++ (d ++ r.take n)).length % 64 = 0 ∧ stOf (T ++ (d ++ r.take n)) = blk (stOf (T ++ d)) (fun t => (lb.take ((T ++ d).length % 64) ++ (r.take n ++ lb.drop ((T ++ d).length % 64 + n))).getD t 0) ∧ left (T ++ (d ++ r.take n)) = []) := by
  have hrl : (r.take n).length = n := by rw [List.length_take]; omega
  have e0 : T ++ (d ++ r.take n) = (T ++ d) ++ r.take n := by simp
  obtain ⟨U, hU⟩ : ∃ U, U = T ++ d := ⟨_, rfl⟩
  rw [e0, ← hU]
  rw [← hU] at hlb hf
  have hul := left_len U
  refine ⟨by simp only [List.length_append, List.length_take, List.length_drop]; omega, fun h => ?_, fun h => ?_⟩
  · obtain ⟨s1, s2⟩ := st_part U (r.take n) (by omega)
    refine ⟨by rw [List.length_append, hrl]; omega, s1, ?_⟩
    rw [s2, hlb, ← List.append_assoc]
    exact List.take_left' (by rw [List.length_append, hul, hrl])
  · obtain ⟨s1, s2⟩ := st_full U (r.take n) (by omega)
    refine ⟨by rw [List.length_append, hrl]; omega, ?_, s2⟩
    rw [s1, hlb, h, List.drop_of_length_le (by omega : lb.length ≤ 64), List.append_nil]

end Go.Proofs.Ytbkokcfmndiedaa

/- The program's padding. -/
namespace Go.Proofs.Ytbkokcfmndiedaa
open Go.RowKit

theorem padTail_get (n j : Nat) (L : Nat) (hL : (padTail n).length = L) : ((padTail n).getD j 0) = if j = 0 then 128 else if j < L - 8 then 0 else (beN 8 (8 * n)).getD (j - (L - 8)) 0 := by
  have hl := hL
  unfold padTail at hl ⊢
  simp only [List.length_cons, List.length_append, List.length_replicate, beN_len] at hl
  rcases j with _ | j
  · rfl
  · simp only [List.getD_eq_getElem?_getD, List.getElem?_cons_succ, if_neg (Nat.succ_ne_zero j)]
    by_cases h : j + 1 < L - 8
    · rw [if_pos h, List.getElem?_append_left (by simp; omega)]
      simp [show j < zeros n by omega]
    · rw [if_neg h, List.getElem?_append_right (by simp; omega)]
      simp only [List.length_replicate]
      rw [show j - zeros n = j + 1 - (L - 8) by omega]
theorem pad_laid (n L : Nat) (hL : (padTail n).length = L) (h9 : 9 ≤ L) : ovr (bA ((List.replicate L (0 : UInt8)).set 0 128)) (L - 8) 8 (pb 8 (8 * n)) 0 = bA (padTail n) := by
  apply Array.ext_getElem?
  intro i
  rcases Nat.lt_or_ge i L with h2 | h2
  · rw [bA_at (padTail n) i (by omega), padTail_get n i L hL]
    by_cases h : L - 8 + 0 ≤ i ∧ i < L - 8 + 8
    · rw [ovr_at _ _ _ _ _ _ h.1 h.2 (by rw [bA_size]; simpa using h2), if_neg (by omega), if_neg (by omega), beN_at _ _ _ (by omega)]
      rfl
    · rw [ovr_other _ _ _ _ _ _ h, bA_at _ _ (by simpa using h2)]
      by_cases h0 : i = 0
      · subst h0
        simp [List.getD_eq_getElem?_getD, show 0 < L by omega]
      · rw [if_neg h0, if_pos (by omega)]
        simp [List.getD_eq_getElem?_getD, Ne.symm h0, h2]
  · rw [Array.getElem?_eq_none (by rw [ovr_size, bA_size]; simpa using h2), Array.getElem?_eq_none (by rw [bA_size, hL]; exact h2)]

end Go.Proofs.Ytbkokcfmndiedaa

/- The program's Join and Sum. -/
namespace Go.Proofs.Ytbkokcfmndiedaa
open Go.RowKit

end Go.Proofs.Ytbkokcfmndiedaa

/- The library's Grow, Concat and Clone at bytes, the program's Pad, the reference's Same. -/
namespace Go.Proofs.Ytbkokcfmndiedaa
open Go.RowKit


end Go.Proofs.Ytbkokcfmndiedaa

/- The listed variables; laws for laws' walks. -/
namespace Go.Proofs.Ytbkokcfmndiedaa
open Go.RowKit

end Go.Proofs.Ytbkokcfmndiedaa

/- The reference's Sum. -/
namespace Go.Proofs.Ytbkokcfmndiedaa
open Go.RowKit

/-- The digest while its bytes are laid, i of them. -/
def outq (s : S8) (i : Nat) : List UInt8 := (List.range 32).map fun j => if j < i then (outB s).getD j 0 else 0
theorem outq_len (s : S8) (i : Nat) : (outq s i).length = 32 := by simp [outq]
theorem outq_zero (s : S8) : outq s 0 = z26 := outp_zero s
theorem outq_end (s : S8) : outq s 32 = outB s := outp_end s
theorem outq_step (s : S8) (i : Nat) (h : i < 32) : (outq s i).set i ((outB s).getD i 0) = outq s (i + 1) := by
  apply List.ext_getElem?
  intro t
  rw [List.getElem?_set]
  by_cases e : i = t
  · subst e
    rw [if_pos rfl, outq_len, if_pos h]
    simp only [outq, List.getElem?_map, List.getElem?_range h, Option.map_some]
    rw [if_pos (by omega)]
  · rw [if_neg e]
    rcases Nat.lt_or_ge t 32 with h2 | h2
    · simp only [outq, List.getElem?_map, List.getElem?_range h2, Option.map_some]
      by_cases h3 : t < i
      · rw [if_pos h3, if_pos (by omega)]
      · rw [if_neg h3, if_neg (by omega)]
    · rw [List.getElem?_eq_none (by simpa [outq] using h2), List.getElem?_eq_none (by simpa [outq] using h2)]
theorem shr_toNat (x : UInt32) (n : Nat) (h : n < 32) : (x >>> UInt32.ofNat n).toNat = x.toNat / 2 ^ n := by
  rw [UInt32.toNat_shiftRight, Nat.shiftRight_eq_div_pow]
  congr 2
  simp; omega
theorem blks_step (P sub : List UInt8) (j : Nat) (hs : sub = (P.drop (64 * j)).take 64) : (blks P j).add (rounds (blks P j) (sched (fnOf sub)) 64) = blks P (j + 1) := by
  rw [blks]
  show blk (blks P j) (fnOf sub) = _
  refine blk_congr _ _ _ fun t ht => ?_
  rw [hs, fnOf]
  simp [List.getD_eq_getElem?_getD, ht, List.getElem?_drop]
end Go.Proofs.Ytbkokcfmndiedaa
