import Derived.Test.YtmfbhohjpkmllaaGreatDoorM5
import Derived.IntWalk
import Derived.Test.YtmfbhohjpkmllaaGreatDoorM2
namespace Go.Proofs.YtmfbhohjpkmllaaGreatDoor
set_option linter.unusedSimpArgs false
set_option linter.unusedVariables false
set_option maxHeartbeats 4000000
set_option maxRecDepth 100000
section
open Go.RowKit
theorem right5_c (n : Int) (w : World) : Calls Tryz.prog 20 #[.int .i64 n] w fun e w' => e = .returned (.bool (decide (0 ≤ n ∧ n ≤ 256))) ∧ w = w' := by
 rcases Classical.em (0 ≤ n) with a | a
 ·have d1 : decide (0 ≤ n) = true := decide_eq_true a
  rcases Classical.em (n ≤ 256) with b | b
  ·have d2 : decide (n ≤ 256) = true := decide_eq_true b
   have d3 : decide (0 ≤ n ∧ n ≤ 256) = true := decide_eq_true ⟨a, b⟩
   rw [d3]
   clear d3
   go_enter Tryz.func20, Tryz.ntmps20
   go_wp2_with fail
   go_ret
   exact ⟨rfl, rfl⟩
  ·have d2 : decide (n ≤ 256) = false := decide_eq_false b
   have d3 : decide (0 ≤ n ∧ n ≤ 256) = false := decide_eq_false fun h => b h.2
   rw [d3]
   clear d3
   go_enter Tryz.func20, Tryz.ntmps20
   go_wp2_with fail
   go_ret
   exact ⟨rfl, rfl⟩
 ·have d1 : decide (0 ≤ n) = false := decide_eq_false a
  have d3 : decide (0 ≤ n ∧ n ≤ 256) = false := decide_eq_false fun h => a h.1
  rw [d3]
  clear d3
  go_enter Tryz.func20, Tryz.ntmps20
  go_wp2_with fail
  go_ret
  exact ⟨rfl, rfl⟩
end
section
open Go.RowKit
def limI (i M : Int) : Nat := (max 0 (min i M)).toNat
theorem limI_le (i M : Int) (h : 0 ≤ M) : (limI i M : Int) ≤ M := by unfold limI; omega
theorem limI_256 (i : Int) : limI i 256 = Bt.lim i := rfl
theorem limit_c (i M : Int) (w : World) :
  Calls Tryz.prog 113 #[.int .i64 i, .int .i64 M] w fun e w' => e = .returned (.int .i64 (limI i M)) ∧ w = w' := by
 go_enter Tryz.func113, Tryz.ntmps113
 go_wp2
 all_goals
  go_ret
  refine ⟨?_, rfl⟩
  unfold limI
  refine ret_int ?_
  split at * <;> simp <;> omega
def fst8 (k : Nat) : Nat := 255 - 255 / 2 ^ k
theorem fst8_lt (k : Nat) : fst8 k < 256 := Nat.lt_of_le_of_lt (Nat.sub_le _ _) (by decide)
theorem first_c (n : Int) (w : World) :
  Calls Tryz.prog 114 #[.int .i64 n] w fun e w' => e = .returned (.int .u8 (fst8 (limI n 8) : Nat)) ∧ w = w' := by
 obtain ⟨k, hk⟩ : ∃ k, k = limI n 8 := ⟨_, rfl⟩
 have hk8 : k ≤ 8 := by have := limI_le n 8 (by decide); omega
 have HL := Lib.hid (limit_c n 8 w)
 rw [← hk] at HL ⊢
 clear hk
 go_enter Tryz.func114, Tryz.ntmps114
 go_wp2_with fail
 refine HL.out.mono ?_
 rintro e w' ⟨rfl, rfl⟩
 clear HL
 have h9 : k = 0 ∨ k = 1 ∨ k = 2 ∨ k = 3 ∨ k = 4 ∨ k = 5 ∨ k = 6 ∨ k = 7 ∨ k = 8 := by omega
 clear hk8
 rcases h9 with rfl | rfl | rfl | rfl | rfl | rfl | rfl | rfl | rfl <;>
  (go_wp2; go_ret; exact ⟨ret_int (by decide +kernel), rfl⟩)
def CutC : Prop := ∀ (l : List UInt8) (n : Int) (w : World), l.length = 32 → Calls Tryz.prog 103 #[.agg (bA l), .int .i64 n] w fun e w' => e = .returned (.agg (bA (cutL n l))) ∧ Below w.heap.size w w'
theorem pre_first (k : Nat → Nat) (hk : Bt.Byt k) (m j : Nat) : Bt.pre k m j = k j &&& fst8 (limI ((m : Int) - 8 * (j : Int)) 8) := by
 have hx := hk j
 unfold Bt.pre
 rcases Nat.lt_trichotomy j (m / 8) with h | h | h
 ·rw [if_pos h, show limI ((m : Int) - 8 * (j : Int)) 8 = 8 by unfold limI; omega, show fst8 8 = 2 ^ 8 - 1 from rfl, Nat.and_two_pow_sub_one_eq_mod]
  omega
 ·rw [if_neg (by omega), if_pos h, show limI ((m : Int) - 8 * (j : Int)) 8 = m % 8 by unfold limI; omega]
  unfold fst8
  rw [Bt.andNot_rest _ _ hx (by omega)]
 ·rw [if_neg (by omega), if_neg (by omega), show limI ((m : Int) - 8 * (j : Int)) 8 = 0 by unfold limI; omega, show fst8 0 = 0 from rfl]
  simp
def mixL (n : Int) (l : List UInt8) (k : Nat) : List UInt8 := (List.range 32).map fun j => if j < k then (cutL n l).getD j 0 else l.getD j 0
theorem mix_len (n : Int) (l : List UInt8) (k : Nat) : (mixL n l k).length = 32 := by simp [mixL]
theorem mix_at (n : Int) (l : List UInt8) (k j : Nat) (h : j < 32) : (mixL n l k).getD j 0 = if j < k then (cutL n l).getD j 0 else l.getD j 0 := by
 simp [mixL, List.getD_eq_getElem?_getD, h]
theorem ext32 {a b : List UInt8} (ha : a.length = 32) (hb : b.length = 32) (h : ∀ j, j < 32 → a.getD j 0 = b.getD j 0) : a = b := by
 refine List.ext_getElem (by omega) fun j h1 h2 => ?_
 have := h j (by omega)
 simpa [List.getD_eq_getElem?_getD, h1, h2] using this
theorem mix_zero (n : Int) (l : List UInt8) (hl : l.length = 32) : mixL n l 0 = l := ext32 (mix_len _ _ _) hl fun j hj => by
 rw [mix_at _ _ _ _ hj, if_neg (by omega)]
theorem mix_end (n : Int) (l : List UInt8) : mixL n l 32 = cutL n l := ext32 (mix_len _ _ _) (cutL_len _ _) fun j hj => by
 rw [mix_at _ _ _ _ hj, if_pos hj]
theorem mix_step (n : Int) (l : List UInt8) (k : Nat) (hk : k < 32) :
  (bA (mixL n l k)).setIfInBounds k (.int .u8 (((l.getD k 0).toNat &&& fst8 (limI ((Bt.lim n : Nat) - 8 * (k : Int)) 8) : Nat) : Int)) = bA (mixL n l (k + 1)) := by
 have h1 := kF_cutL n l k hk
 rw [pre_first _ (kF_byt l)] at h1
 have h2 : (.int .u8 (((l.getD k 0).toNat &&& fst8 (limI ((Bt.lim n : Nat) - 8 * (k : Int)) 8) : Nat) : Int) : Value) = bv ((cutL n l).getD k 0) := by
  rw [bv]
  unfold kF at h1
  rw [h1]
 rw [h2, bA_set]
 congr 1
 refine ext32 (by rw [List.length_set, mix_len]) (mix_len _ _ _) fun j hj => ?_
 rw [mix_at _ _ _ _ hj, List.getD_eq_getElem?_getD, List.getElem?_set]
 by_cases e : k = j
 ·subst e
  rw [if_pos rfl, if_pos (by rw [mix_len]; exact hk), if_pos (by omega)]
  rfl
 ·rw [if_neg e, ← List.getD_eq_getElem?_getD, mix_at _ _ _ _ hj]
  by_cases h3 : j < k
  ·rw [if_pos h3, if_pos (by omega)]
  ·rw [if_neg h3, if_neg (by omega)]
theorem cut_c : CutC := fun l n w hl => by
 obtain ⟨m, hm⟩ : ∃ m, m = Bt.lim n := ⟨_, rfl⟩
 have hm256 : m ≤ 256 := hm ▸ Bt.lim_le n
 have HL : Hid (∀ w, Calls Tryz.prog 113 #[.int .i64 n, .int .i64 256] w fun e w' => e = .returned (.int .i64 (m : Int)) ∧ w = w') := fun w => by
  have := limit_c n 256 w
  rwa [limI_256, ← hm] at this
 have HM := Lib.hid hm
 clear hm
 have H0 : Hid (((w.alloc (.cells (bA l) 45)).alloc (.cells (bA z26) 45)).heap[w.heap.size]? = some (.cells (bA (mixL n l 0)) 45 (0, 0))) := by
  rw [mix_zero n l hl]; exact heap_alloc2_old w _ _
 have H1 := Lib.hid (heap_alloc2_new w (.cells (bA l) 45) (.cells (bA z26) 45))
 have HB : Hid (Below w.heap.size w ((w.alloc (.cells (bA l) 45)).alloc (.cells (bA z26) 45))) := ((Below.refl _ _).alloc (Nat.le_refl _) _).alloc (by simp) _
 go_enter Tryz.func103, Tryz.ntmps103
 go_wp2_with fail
 refine (HL.out _).mono ?_
 rintro e w' ⟨rfl, rfl⟩
 clear HL
 go_wp2_with fail
 go_loopg [9] 32 (fun gg i wr => ∃ k : Nat, i = .int .i64 k ∧ k ≤ 32 ∧ 32 - k = gg ∧ wr.heap[w.heap.size]? = some (.cells (bA (mixL n l k)) 45 (0, 0)) ∧ wr.heap[w.heap.size + 1]? = some (.cells (bA z26) 45 (0, 0)) ∧ Below w.heap.size w wr)
 case atStart => exact ⟨0, rfl, by omega, by omega, H0.out, H1.out, HB.out⟩
 case round =>
  clear H0 H1 HB
  obtain ⟨k, rfl, hk, rfl, hr0, hr1, hB⟩ := hrel
  by_cases hlt : k < 32
  ·have hd : decide ((k : Int) < 32) = true := by rw [decide_eq_true_eq]; omega
   obtain ⟨X, hX⟩ : ∃ X, X = (l.getD k 0).toNat := ⟨_, rfl⟩
   obtain ⟨F, hF⟩ : ∃ F, F = fst8 (limI ((m : Int) - 8 * (k : Int)) 8) := ⟨_, rfl⟩
   have hX256 : X < 256 := hX ▸ UInt8.toNat_lt _
   have hF256 : F < 256 := hF ▸ fst8_lt _
   have hstep := mix_step n l k hlt
   rw [← HM.out, ← hX, ← hF] at hstep
   have hcell : wr.cell? ⟨w.heap.size, k, none⟩ = some (.int .u8 (X : Int)) := by
    rw [cell_of_cells hr0, bA_at _ _ (by rw [mix_len]; exact hlt), mix_at _ _ _ _ hlt, if_neg (by omega), hX]; rfl
   have hfz : wr.frozen? ⟨w.heap.size, k, none⟩ = false := frozen_of_row wr _ _ _ _ hr0
   have hand := u8_and_nat X F hX256 hF256
   have HFc : Hid (∀ w, Calls Tryz.prog 114 #[.int .i64 ((m : Int) - 8 * (k : Int))] w fun e w' => e = .returned (.int .u8 (F : Int)) ∧ w' = w) := fun w => by
    have := first_c ((m : Int) - 8 * (k : Int)) w
    rw [← hF] at this
    exact this.mono fun _ _ ⟨a, b⟩ => ⟨a, b.symm⟩
   have HN : Hid (∀ nq, ((wr.setCell ⟨w.heap.size, k, none⟩ (.int .u8 ((X &&& F : Nat) : Int))).drewN nq).heap[w.heap.size]? = some (.cells (bA (mixL n l (k + 1))) 45 (0, 0))) := fun nq => by
    show (wr.setCell _ _).heap[w.heap.size]? = _
    rw [setCell_eq_setRow wr w.heap.size k _ 45 (0, 0) _ hr0, hstep]
    exact setRow_heap wr w.heap.size _ _ _ _ hr0
   have HR : Hid (∀ nq, ((wr.setCell ⟨w.heap.size, k, none⟩ (.int .u8 ((X &&& F : Nat) : Int))).drewN nq).heap[w.heap.size + 1]? = some (.cells (bA z26) 45 (0, 0))) := fun nq => by
    show (wr.setCell _ _).heap[w.heap.size + 1]? = _
    rw [Below.heap_setCell _ _ _ _ (by simp)]
    exact hr1
   have HB2 : Hid (∀ nq, Below w.heap.size w ((wr.setCell ⟨w.heap.size, k, none⟩ (.int .u8 ((X &&& F : Nat) : Int))).drewN nq)) := fun nq => below_drewN (hB.setCell (Nat.le_refl _) _) _
   clear hX hF hstep hr0 hr1 hB
   have w1 : IntKind.i64.wrap (8 * (k : Int)) = 8 * (k : Int) := IntWalk.i64_in _ (by omega)
   have w2 : IntKind.i64.wrap ((m : Int) - 8 * (k : Int)) = (m : Int) - 8 * (k : Int) := IntWalk.i64_in _ (by omega)
   have p0 : (0 : Int) ≤ (k : Int) := by omega
   have p1 : (k : Int) < 32 := by omega
   go_wp2_with fail
   refine wp_region_drawn_tail 10 (by kernel_rfl) (by kernel_rfl) ?_
   simp only [List.take_succ_cons, List.take_zero, List.drop_succ_cons, List.drop_zero]
   repeat (go_big_quiet_step ((go_at_call 114; exact Calls.quiet_of_same (HFc.out _))))
   refine wpQuiet_nil ?_
   rintro _ ⟨nq, rfl⟩
   clear HFc w1 w2
   go_wp2_with fail
   go_roundg (32 - (k + 1))
   case measure => omega
   case rel => exact ⟨k + 1, by go_num, by omega, rfl, HN.out _, HR.out _, HB2.out _⟩
  ·obtain rfl : k = 32 := by omega
   rw [mix_end] at hr0
   have ld1 : ldA 45 wr (.pointer (some ⟨w.heap.size, 0, none⟩)) = .ok (.value (.agg (bA (cutL n l)))) wr := ldA_row hr0 Tryz.underlying45 (by rw [bA_size, cutL_len]; exact info26)
   have st1 : stA 45 wr (.pointer (some ⟨w.heap.size + 1, 0, none⟩)) (.agg (bA (cutL n l))) = .ok .skip (wr.setRow (w.heap.size + 1) (bA (cutL n l))) := stA_row hr1 (by rw [bA_size, cutL_len]; exact info26) (by rw [bA_size, bA_size, cutL_len]; rfl) (bA_one _)
   have HM2 := Lib.hid (setRow_heap wr (w.heap.size + 1) _ (bA (cutL n l)) _ _ hr1)
   have HB := Lib.hid (below_setRow hB (show w.heap.size ≤ w.heap.size + 1 by omega) (bA (cutL n l)))
   clear hr0 hr1 hB
   go_wp2_with fail
   refine bodyPost_ret (v := .agg (bA (cutL n l))) ?_ rfl ⟨rfl, HB.out⟩
   exact results_cell_row Tryz.results103 _ _ (w.heap.size + 1) 45 _ (0, 0) _ rfl HM2.out Tryz.underlying45 rfl (by rw [bA_size, cutL_len]; exact info26)
end
section
open Go.RowKit
abbrev ptr (b : Nat) : Value := .pointer (some ⟨b, 0, none⟩)
def Hs (w : World) (b : Nat) (n : Int) (c : Nat) : Prop := w.heap[b]? = some (.cells #[.int .i64 (c : Int), .int .i64 n] 121 (0, 0))
theorem Hs.cell0 {w : World} {b : Nat} {n : Int} {c : Nat} (h : Hs w b n c) : w.cell? ⟨b, 0, none⟩ = some (.int .i64 (c : Int)) := by rw [cell_of_cells h]; rfl
theorem Hs.cell1 {w : World} {b : Nat} {n : Int} {c : Nat} (h : Hs w b n c) : w.cell? ⟨b, 1, none⟩ = some (.int .i64 n) := by rw [cell_of_cells h]; rfl
theorem Hs.keep {L : Nat → Prop} {w w' : World} {b : Nat} {n : Int} {c : Nat} (h : Hs w b n c) (k : Keep L w w') (hl : ¬ L b) : Hs w' b n c := k.heap h hl
theorem Hs.set {w : World} {b : Nat} {n : Int} {c : Nat} (h : Hs w b n c) : Hs (w.setCell ⟨b, 0, none⟩ (.int .i64 ((c : Int) + 1))) b n (c + 1) := by
 unfold Hs
 rw [setCell_eq_setRow w b 0 _ _ (0, 0) _ h, setRow_heap w b _ _ _ _ h]
 rfl
theorem Hs.vars {w : World} {b : Nat} {n : Int} {c : Nat} (h : Hs w b n c) (hv : Vars w) : b ≠ 1 ∧ b ≠ 0 := by
 constructor
 ·intro e
  have h1 := hv.kt 5 (by decide)
  rw [← e, cell_of_cells h] at h1
  cases h1
 ·intro e
  have h1 := hv.it 5 _ (show (init8.list.map u)[5]? = some (u (init8.list.getD 5 0)) from rfl)
  rw [← e, cell_of_cells h] at h1
  cases h1
theorem Hs.ba {w w' : World} {b : Nat} {n : Int} {c : Nat} {A : Option Addr} {l : List UInt8} (h : Hs w b n c) (hA : BA w A l) (k : Keep (fun i => i = b) w w') : BA w' A l := fun j x hx => by
 obtain ⟨g, o, e, h1⟩ := hA j x hx
 refine ⟨g, o, e, k.cellAt h1 fun e2 => ?_⟩
 have e3 : g = b := e2
 subst e3
 rw [cell_of_cells h] at h1
 obtain ⟨q, hq⟩ : ∃ q, q = o + j := ⟨_, rfl⟩
 rw [← hq] at h1
 match q, h1 with
 | 0, h1 => cases h1
 | 1, h1 => cases h1
 | q + 2, h1 => simp at h1
theorem wp_region_later_tail {P : Program} {id : Nat} {Q : Exit → Act → World → Prop} {a : Act} {w : World} {l : List Oper} (n : Nat) (hm : P.follows .mixedOrders = true) (hB : Region.lexTailB .any l.toArray n = true)
  (h : wpQuiet P l.toArray (fun w' => ∃ x : Later w, w' = x.w) (fun a' => ∀ w', (∃ x : Later w, w' = x.w) → wpList P l.toArray Q (l.drop n) a' w') (l.take n) a) : (Code.region id l.toArray true).wp P Q a w :=
 wp_region_quiet_tail (C := fun w' => ∃ x : Later w, w' = x.w) n hm hB ⟨⟨w.drew, (Below.refl _ _).drew⟩, rfl⟩ h
theorem count_c (b : Nat) (n : Int) (c : Nat) (w : World) (h : Hs w b n c) (hc : c ≤ 1000000000) :
  Calls Tryz.prog 102 #[.pointer (some ⟨b, 0, none⟩)] w fun e w' => e = .returned (.tuple #[]) ∧ w' = w.setCell ⟨b, 0, none⟩ (.int .i64 ((c : Int) + 1)) := by
 have h0 := h.cell0
 have hfz : w.frozen? ⟨b, 0, none⟩ = false := frozen_of_row w _ _ _ _ h
 clear h
 go_enter Tryz.func102, Tryz.ntmps102
 go_wp2
 go_end0
 exact ⟨rfl, rfl⟩
theorem sum_hs (b : Nat) (n : Int) (c : Nat) (A : Option Addr) (l : List UInt8) (cap : Nat) (w : World) (h : Hs w b n c) (hc : c ≤ 1000000000) (hA : BA w A l) (hcap : l.length ≤ cap) (hl : l.length ≤ 900000) (hv : Vars w) :
  Calls Tryz.prog 78 #[ptr b, .slice A l.length cap] w fun e w' => e = .returned (.agg (bA (digL n l))) ∧ Hs w' b n (c + 1) ∧ Keep (fun i => i = b) w w' := by
 have K1 : Keep (fun i => i = b) w (w.alloc (.cells (bA z26) 45)) := (Keep.refl _ w).alloc _
 have K0 : Keep (fun _ => False) w (w.alloc (.cells (bA z26) 45)) := (Keep.refl _ w).alloc _
 have hb := lt_of_heap h
 have H1 := Lib.hid (h.keep K0 fun h => h)
 have HC := Lib.hid (count_c b n c _ H1.out hc)
 have hvs := h.vars hv
 have HV := Lib.hid (hv.keep (K1.trans (Keep.cell _ ⟨b, 0, none⟩ (.int .i64 ((c : Int) + 1)))) (fun e => hvs.1 e.symm) (fun e => hvs.2 e.symm))
 have HA := Lib.hid (h.ba hA (K1.trans (Keep.cell _ ⟨b, 0, none⟩ (.int .i64 ((c : Int) + 1)))))
 have HK := Lib.hid (K1.trans (Keep.cell _ ⟨b, 0, none⟩ (.int .i64 ((c : Int) + 1))))
 have HR : Hid (((w.alloc (.cells (bA z26) 45)).setCell ⟨b, 0, none⟩ (.int .i64 ((c : Int) + 1))).heap[w.heap.size]? = some (.cells (bA z26) 45 (0, 0))) := by
  show _ = _
  rw [Below.heap_setCell _ _ _ _ (by show ¬ _ = b; omega)]
  exact heap_alloc_new w _
 have H2 := Lib.hid H1.out.set
 clear h hA hv hvs K1 K0 H1
 unfold ptr
 go_enter Tryz.func78, Tryz.ntmps78
 go_wp2_with fail
 refine HC.out.mono ?_
 rintro e w2 ⟨rfl, hw2⟩
 rw [← hw2] at HV HA HK HR H2
 clear hw2 HC
 have la : ∀ x : Later w2, x.w.cell? ⟨b, 1, none⟩ = some (.int .i64 n) := fun x => (H2.out.keep (Keep.of_below (L := fun _ => False) x.h) fun h => h).cell1
 have HS : Hid (∀ x : Later w2, Calls Tryz.prog 104 #[.slice A l.length cap] x.w fun e w'' => e = .returned (.agg (bA (sumL l))) ∧ ∃ y : Later w2, w'' = y.w) := fun x =>
  have hvx := HV.out.below x.h
  Later.call (sum_c A cap l x.w (HA.out.below x.h) hcap hvx.kt hvx.it (by omega))
 have HCut : Hid (∀ x : Later w2, Calls Tryz.prog 103 #[.agg (bA (sumL l)), .int .i64 n] x.w fun e w'' => e = .returned (.agg (bA (digL n l))) ∧ ∃ y : Later w2, w'' = y.w) := fun x =>
  Later.call (cut_c (sumL l) n x.w (sumL_len _))
 go_wp2_with fail
 refine wp_region_later_tail 7 (by kernel_rfl) (by kernel_rfl) ?_
 simp only [List.take_succ_cons, List.take_zero, List.drop_succ_cons, List.drop_zero]
 repeat (go_big_quiet_step ((first
  | (go_at_call 104; exact HS.out _)
  | (go_at_call 103; exact HCut.out _))))
 refine wpQuiet_nil ?_
 rintro _ ⟨x, rfl⟩
 clear la HS HCut
 have HRx := Lib.hid (x.block HR.out)
 have st1 : stA 45 x.w (.pointer (some ⟨w.heap.size, 0, none⟩)) (.agg (bA (digL n l))) = .ok .skip (x.w.setRow w.heap.size (bA (digL n l))) := stA_row HRx.out (by rw [bA_size, dig_len]; exact info26) (by rw [bA_size, bA_size, dig_len]; rfl) (bA_one _)
 have HM := Lib.hid (setRow_heap x.w w.heap.size _ (bA (digL n l)) _ _ HRx.out)
 have HF : Hid (Hs (x.w.setRow w.heap.size (bA (digL n l))) b n (c + 1)) := (H2.out.keep (Keep.of_below (L := fun _ => False) x.h) fun h => h).keep (Keep.row x.w w.heap.size _) (by omega)
 have HKf : Hid (Keep (fun i => i = b) w (x.w.setRow w.heap.size (bA (digL n l)))) := (HK.out.trans (Keep.of_below x.h)).step (Keep.row x.w w.heap.size _) fun i hi => .inr (by omega)
 go_wp2_with fail
 refine bodyPost_ret (v := .agg (bA (digL n l))) ?_ rfl ⟨rfl, HF.out, HKf.out⟩
 exact results_cell_row Tryz.results78 _ _ w.heap.size 45 _ (0, 0) _ rfl HM.out Tryz.underlying45 rfl (by rw [bA_size, dig_len]; exact info26)
end
section
open Go.RowKit
theorem hs_new (w : World) (n : Int) : Hs (w.alloc (.cells #[.int .i64 0, .int .i64 n] 121)) w.heap.size n 0 := heap_alloc_last w _
theorem new_c (n : Int) (w : World) (h0 : 0 ≤ n) (h1 : n ≤ 256) : Calls Tryz.prog 36 #[.int .i64 n] w fun e w' => ∃ b, e = .returned (.tuple #[ptr b, .int .i64 0]) ∧ w.heap.size ≤ b ∧ Hs w' b n 0 ∧ Below w.heap.size w w' := by
 have d0 : decide (n < 0) = false := decide_eq_false (by omega)
 have d1 : decide (256 < n) = false := decide_eq_false (by omega)
 go_enter Tryz.func36, Tryz.ntmps36
 go_wp2
 go_ret2
 exact ⟨w.heap.size, rfl, Nat.le_refl _, hs_new w n, (Below.refl _ _).alloc (Nat.le_refl _) _⟩
theorem out_c (n : Int) (w : World) (h : n < 0 ∨ 256 < n) : Calls Tryz.prog 36 #[.int .i64 n] w fun e w' => e = .returned (.tuple #[.pointer none, .int .i64 4]) ∧ Below w.heap.size w w' := by
 by_cases h0 : n < 0
 ·have d0 : decide (n < 0) = true := decide_eq_true h0
  go_enter Tryz.func36, Tryz.ntmps36
  go_wp2
  go_ret2
  exact ⟨rfl, Below.refl _ _⟩
 ·have d0 : decide (n < 0) = false := decide_eq_false h0
  have h1 : 256 < n := by omega
  have d1 : decide (256 < n) = true := decide_eq_true h1
  clear h
  go_enter Tryz.func36, Tryz.ntmps36
  go_wp2
  go_ret2
  exact ⟨rfl, Below.refl _ _⟩
end
section
open Go.RowKit
end
end Go.Proofs.YtmfbhohjpkmllaaGreatDoor
