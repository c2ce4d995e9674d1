import Derived.Test.YtkejfdgmdjfdoaaGreatDoorM5
import Derived.IntWalk
namespace Go.Proofs.YtkejfdgmdjfdoaaGreatDoor
set_option linter.unusedSimpArgs false
set_option linter.unusedVariables false
set_option maxHeartbeats 4000000
set_option maxRecDepth 100000
open Go.RowKit
def limI (i M : Int) : Nat := (max 0 (min i M)).toNat
theorem limI_le (i M : Int) (h : 0 ≤ M) : (limI i M : Int) ≤ M := by unfold limI; omega
theorem limI_256 (i : Int) : limI i 256 = Bt.lim i := rfl
theorem limit_c (i M : Int) (w : World) :
  Calls Tryz.prog 105 #[.int .i64 i, .int .i64 M] w fun e w' => e = .returned (.int .i64 (limI i M)) ∧ w = w' := by
 go_enter Tryz.func105, Tryz.ntmps105
 go_wp2
 all_goals
  go_ret
  refine ⟨?_, rfl⟩
  unfold limI
  refine ret_int ?_
  split at * <;> simp <;> omega
def fst8 (k : Nat) : Nat := 255 - 255 / 2 ^ k
theorem fst8_lt (k : Nat) : fst8 k < 256 := Nat.lt_of_le_of_lt (Nat.sub_le _ _) (by decide)
theorem first_c (n : Int) (w : World) :
  Calls Tryz.prog 106 #[.int .i64 n] w fun e w' => e = .returned (.int .u8 (fst8 (limI n 8) : Nat)) ∧ w = w' := by
 obtain ⟨k, hk⟩ : ∃ k, k = limI n 8 := ⟨_, rfl⟩
 have hk8 : k ≤ 8 := by have := limI_le n 8 (by decide); omega
 have HL := Lib.hid (limit_c n 8 w)
 rw [← hk] at HL ⊢
 clear hk
 go_enter Tryz.func106, Tryz.ntmps106
 go_wp2_with fail
 refine HL.out.mono ?_
 rintro e w' ⟨rfl, rfl⟩
 clear HL
 have h9 : k = 0 ∨ k = 1 ∨ k = 2 ∨ k = 3 ∨ k = 4 ∨ k = 5 ∨ k = 6 ∨ k = 7 ∨ k = 8 := by omega
 clear hk8
 rcases h9 with rfl | rfl | rfl | rfl | rfl | rfl | rfl | rfl | rfl <;>
  (go_wp2; go_ret; exact ⟨ret_int (by decide +kernel), rfl⟩)
def CutC : Prop := ∀ (l : List UInt8) (n : Int) (w : World), l.length = 32 → Calls Tryz.prog 73 #[.agg (bA l), .int .i64 n] w fun e w' => e = .returned (.agg (bA (cutL n l))) ∧ Below w.heap.size w w'
theorem pre_first (k : Nat → Nat) (hk : Bt.Byt k) (m j : Nat) : Bt.pre k m j = k j &&& fst8 (limI ((m : Int) - 8 * (j : Int)) 8) := by
 have hx := hk j
 unfold Bt.pre
 rcases Nat.lt_trichotomy j (m / 8) with h | h | h
 ·rw [if_pos h, show limI ((m : Int) - 8 * (j : Int)) 8 = 8 by unfold limI; omega, show fst8 8 = 2 ^ 8 - 1 from rfl, Nat.and_two_pow_sub_one_eq_mod]
  omega
 ·rw [if_neg (by omega), if_pos h, show limI ((m : Int) - 8 * (j : Int)) 8 = m % 8 by unfold limI; omega]
  unfold fst8
  rw [Bt.andNot_rest _ _ hx (by omega)]
 ·rw [if_neg (by omega), if_neg (by omega), show limI ((m : Int) - 8 * (j : Int)) 8 = 0 by unfold limI; omega, show fst8 0 = 0 from rfl]
  simp
def mixL (n : Int) (l : List UInt8) (k : Nat) : List UInt8 := (List.range 32).map fun j => if j < k then (cutL n l).getD j 0 else l.getD j 0
theorem mix_len (n : Int) (l : List UInt8) (k : Nat) : (mixL n l k).length = 32 := by simp [mixL]
theorem mix_at (n : Int) (l : List UInt8) (k j : Nat) (h : j < 32) : (mixL n l k).getD j 0 = if j < k then (cutL n l).getD j 0 else l.getD j 0 := by
 simp [mixL, List.getD_eq_getElem?_getD, h]
theorem ext32 {a b : List UInt8} (ha : a.length = 32) (hb : b.length = 32) (h : ∀ j, j < 32 → a.getD j 0 = b.getD j 0) : a = b := by
 refine List.ext_getElem (by omega) fun j h1 h2 => ?_
 have := h j (by omega)
 simpa [List.getD_eq_getElem?_getD, h1, h2] using this
theorem mix_zero (n : Int) (l : List UInt8) (hl : l.length = 32) : mixL n l 0 = l := ext32 (mix_len _ _ _) hl fun j hj => by
 rw [mix_at _ _ _ _ hj, if_neg (by omega)]
theorem mix_end (n : Int) (l : List UInt8) : mixL n l 32 = cutL n l := ext32 (mix_len _ _ _) (cutL_len _ _) fun j hj => by
 rw [mix_at _ _ _ _ hj, if_pos hj]
theorem mix_step (n : Int) (l : List UInt8) (k : Nat) (hk : k < 32) :
  (bA (mixL n l k)).setIfInBounds k (.int .u8 (((l.getD k 0).toNat &&& fst8 (limI ((Bt.lim n : Nat) - 8 * (k : Int)) 8) : Nat) : Int)) = bA (mixL n l (k + 1)) := by
 have h1 := kF_cutL n l k hk
 rw [pre_first _ (kF_byt l)] at h1
 have h2 : (.int .u8 (((l.getD k 0).toNat &&& fst8 (limI ((Bt.lim n : Nat) - 8 * (k : Int)) 8) : Nat) : Int) : Value) = bv ((cutL n l).getD k 0) := by
  rw [bv]
  unfold kF at h1
  rw [h1]
 rw [h2, bA_set]
 congr 1
 refine ext32 (by rw [List.length_set, mix_len]) (mix_len _ _ _) fun j hj => ?_
 rw [mix_at _ _ _ _ hj, List.getD_eq_getElem?_getD, List.getElem?_set]
 by_cases e : k = j
 ·subst e
  rw [if_pos rfl, if_pos (by rw [mix_len]; exact hk), if_pos (by omega)]
  rfl
 ·rw [if_neg e, ← List.getD_eq_getElem?_getD, mix_at _ _ _ _ hj]
  by_cases h3 : j < k
  ·rw [if_pos h3, if_pos (by omega)]
  ·rw [if_neg h3, if_neg (by omega)]
theorem cut_c : CutC := fun l n w hl => by
 obtain ⟨m, hm⟩ : ∃ m, m = Bt.lim n := ⟨_, rfl⟩
 have hm256 : m ≤ 256 := hm ▸ Bt.lim_le n
 have HL : Hid (∀ w, Calls Tryz.prog 105 #[.int .i64 n, .int .i64 256] w fun e w' => e = .returned (.int .i64 (m : Int)) ∧ w = w') := fun w => by
  have := limit_c n 256 w
  rwa [limI_256, ← hm] at this
 have HM := Lib.hid hm
 clear hm
 have H0 : Hid (((w.alloc (.cells (bA l) 46)).alloc (.cells (bA z26) 46)).heap[w.heap.size]? = some (.cells (bA (mixL n l 0)) 46 (0, 0))) := by
  rw [mix_zero n l hl]; exact heap_alloc2_old w _ _
 have H1 := Lib.hid (heap_alloc2_new w (.cells (bA l) 46) (.cells (bA z26) 46))
 have HB : Hid (Below w.heap.size w ((w.alloc (.cells (bA l) 46)).alloc (.cells (bA z26) 46))) := ((Below.refl _ _).alloc (Nat.le_refl _) _).alloc (by simp) _
 go_enter Tryz.func73, Tryz.ntmps73
 go_wp2_with fail
 refine (HL.out _).mono ?_
 rintro e w' ⟨rfl, rfl⟩
 clear HL
 go_wp2_with fail
 go_loopg [9] 32 (fun gg i wr => ∃ k : Nat, i = .int .i64 k ∧ k ≤ 32 ∧ 32 - k = gg ∧ wr.heap[w.heap.size]? = some (.cells (bA (mixL n l k)) 46 (0, 0)) ∧ wr.heap[w.heap.size + 1]? = some (.cells (bA z26) 46 (0, 0)) ∧ Below w.heap.size w wr)
 case atStart => exact ⟨0, rfl, by omega, by omega, H0.out, H1.out, HB.out⟩
 case round =>
  clear H0 H1 HB
  obtain ⟨k, rfl, hk, rfl, hr0, hr1, hB⟩ := hrel
  by_cases hlt : k < 32
  ·have hd : decide ((k : Int) < 32) = true := by rw [decide_eq_true_eq]; omega
   obtain ⟨X, hX⟩ : ∃ X, X = (l.getD k 0).toNat := ⟨_, rfl⟩
   obtain ⟨F, hF⟩ : ∃ F, F = fst8 (limI ((m : Int) - 8 * (k : Int)) 8) := ⟨_, rfl⟩
   have hX256 : X < 256 := hX ▸ UInt8.toNat_lt _
   have hF256 : F < 256 := hF ▸ fst8_lt _
   have hstep := mix_step n l k hlt
   rw [← HM.out, ← hX, ← hF] at hstep
   have hcell : wr.cell? ⟨w.heap.size, k, none⟩ = some (.int .u8 (X : Int)) := by
    rw [cell_of_cells hr0, bA_at _ _ (by rw [mix_len]; exact hlt), mix_at _ _ _ _ hlt, if_neg (by omega), hX]; rfl
   have hfz : wr.frozen? ⟨w.heap.size, k, none⟩ = false := frozen_of_row wr _ _ _ _ hr0
   have hand := u8_and_nat X F hX256 hF256
   have HFc : Hid (∀ w, Calls Tryz.prog 106 #[.int .i64 ((m : Int) - 8 * (k : Int))] w fun e w' => e = .returned (.int .u8 (F : Int)) ∧ w' = w) := fun w => by
    have := first_c ((m : Int) - 8 * (k : Int)) w
    rw [← hF] at this
    exact this.mono fun _ _ ⟨a, b⟩ => ⟨a, b.symm⟩
   have HN : Hid (∀ nq, ((wr.setCell ⟨w.heap.size, k, none⟩ (.int .u8 ((X &&& F : Nat) : Int))).drewN nq).heap[w.heap.size]? = some (.cells (bA (mixL n l (k + 1))) 46 (0, 0))) := fun nq => by
    show (wr.setCell _ _).heap[w.heap.size]? = _
    rw [setCell_eq_setRow wr w.heap.size k _ 46 (0, 0) _ hr0, hstep]
    exact setRow_heap wr w.heap.size _ _ _ _ hr0
   have HR : Hid (∀ nq, ((wr.setCell ⟨w.heap.size, k, none⟩ (.int .u8 ((X &&& F : Nat) : Int))).drewN nq).heap[w.heap.size + 1]? = some (.cells (bA z26) 46 (0, 0))) := fun nq => by
    show (wr.setCell _ _).heap[w.heap.size + 1]? = _
    rw [Below.heap_setCell _ _ _ _ (by simp)]
    exact hr1
   have HB2 : Hid (∀ nq, Below w.heap.size w ((wr.setCell ⟨w.heap.size, k, none⟩ (.int .u8 ((X &&& F : Nat) : Int))).drewN nq)) := fun nq => below_drewN (hB.setCell (Nat.le_refl _) _) _
   clear hX hF hstep hr0 hr1 hB
   have w1 : IntKind.i64.wrap (8 * (k : Int)) = 8 * (k : Int) := IntWalk.i64_in _ (by omega)
   have w2 : IntKind.i64.wrap ((m : Int) - 8 * (k : Int)) = (m : Int) - 8 * (k : Int) := IntWalk.i64_in _ (by omega)
   have p0 : (0 : Int) ≤ (k : Int) := by omega
   have p1 : (k : Int) < 32 := by omega
   go_wp2_with fail
   refine wp_region_drawn_tail 10 (by kernel_rfl) (by kernel_rfl) ?_
   simp only [List.take_succ_cons, List.take_zero, List.drop_succ_cons, List.drop_zero]
   repeat (go_big_quiet_step ((go_at_call 106; exact Calls.quiet_of_same (HFc.out _))))
   refine wpQuiet_nil ?_
   rintro _ ⟨nq, rfl⟩
   clear HFc w1 w2
   go_wp2_with fail
   go_roundg (32 - (k + 1))
   case measure => omega
   case rel => exact ⟨k + 1, by go_num, by omega, rfl, HN.out _, HR.out _, HB2.out _⟩
  ·obtain rfl : k = 32 := by omega
   rw [mix_end] at hr0
   have ld1 : ldA 46 wr (.pointer (some ⟨w.heap.size, 0, none⟩)) = .ok (.value (.agg (bA (cutL n l)))) wr := ldA_row hr0 Tryz.underlying46 (by rw [bA_size, cutL_len]; exact info26)
   have st1 : stA 46 wr (.pointer (some ⟨w.heap.size + 1, 0, none⟩)) (.agg (bA (cutL n l))) = .ok .skip (wr.setRow (w.heap.size + 1) (bA (cutL n l))) := stA_row hr1 (by rw [bA_size, cutL_len]; exact info26) (by rw [bA_size, bA_size, cutL_len]; rfl) (bA_one _)
   have HM2 := Lib.hid (setRow_heap wr (w.heap.size + 1) _ (bA (cutL n l)) _ _ hr1)
   have HB := Lib.hid (below_setRow hB (show w.heap.size ≤ w.heap.size + 1 by omega) (bA (cutL n l)))
   clear hr0 hr1 hB
   go_wp2_with fail
   refine bodyPost_ret (v := .agg (bA (cutL n l))) ?_ rfl ⟨rfl, HB.out⟩
   exact results_cell_row Tryz.results73 _ _ (w.heap.size + 1) 46 _ (0, 0) _ rfl HM2.out Tryz.underlying46 rfl (by rw [bA_size, cutL_len]; exact info26)
end Go.Proofs.YtkejfdgmdjfdoaaGreatDoor
