import Derived.Test.YtkejfdgmdjfdoaaGreatDoorLa
import Derived.Deep.RegionHeld3
import Derived.Lib.SlBytesConst
import Derived.Test.YtkejfdgmdjfdoaaGreatDoorDf
namespace Go.Proofs.YtkejfdgmdjfdoaaGreatDoor
set_option linter.unusedSimpArgs false
set_option linter.unusedVariables false
set_option maxHeartbeats 4000000
set_option maxRecDepth 100000
section
open Go.RowKit
structure Vars (w : World) : Prop where
 kt : KT w
 it : IT w
theorem Vars.keep {L : Nat → Prop} {a b : World} (h : Vars a) (k : Keep L a b) (h1 : ¬ L 2) (h0 : ¬ L 1) : Vars b := ⟨h.kt.keep k h1, h.it.keep k h0⟩
theorem Vars.below {a b : World} (h : Vars a) (k : Below a.heap.size a b) : Vars b := h.keep (Keep.of_below (L := fun _ => False) k) (fun h => h) (fun h => h)
end
section
open Go.RowKit
abbrev ptr (b : Nat) : Value := .pointer (some ⟨b, 0, none⟩)
def Hs (w : World) (b : Nat) (n : Int) (c : Nat) : Prop := w.heap[b]? = some (.cells #[.int .i64 (c : Int), .int .i64 n] 95 (0, 0))
theorem Hs.cell0 {w : World} {b : Nat} {n : Int} {c : Nat} (h : Hs w b n c) : w.cell? ⟨b, 0, none⟩ = some (.int .i64 (c : Int)) := by rw [cell_of_cells h]; rfl
theorem Hs.cell1 {w : World} {b : Nat} {n : Int} {c : Nat} (h : Hs w b n c) : w.cell? ⟨b, 1, none⟩ = some (.int .i64 n) := by rw [cell_of_cells h]; rfl
theorem Hs.keep {L : Nat → Prop} {w w' : World} {b : Nat} {n : Int} {c : Nat} (h : Hs w b n c) (k : Keep L w w') (hl : ¬ L b) : Hs w' b n c := k.heap h hl
theorem Hs.set {w : World} {b : Nat} {n : Int} {c : Nat} (h : Hs w b n c) : Hs (w.setCell ⟨b, 0, none⟩ (.int .i64 ((c : Int) + 1))) b n (c + 1) := by
 unfold Hs
 rw [setCell_eq_setRow w b 0 _ _ (0, 0) _ h, setRow_heap w b _ _ _ _ h]
 rfl
theorem Hs.vars {w : World} {b : Nat} {n : Int} {c : Nat} (h : Hs w b n c) (hv : Vars w) : b ≠ 2 ∧ b ≠ 1 := by
 constructor
 ·intro e
  have h1 := hv.kt 5 (by decide)
  rw [← e, cell_of_cells h] at h1
  cases h1
 ·intro e
  have h1 := hv.it 5 _ (show (init8.list.map u)[5]? = some (u (init8.list.getD 5 0)) from rfl)
  rw [← e, cell_of_cells h] at h1
  cases h1
theorem Hs.ba {w w' : World} {b : Nat} {n : Int} {c : Nat} {A : Option Addr} {l : List UInt8} (h : Hs w b n c) (hA : BA w A l) (k : Keep (fun i => i = b) w w') : BA w' A l := fun j x hx => by
 obtain ⟨g, o, e, h1⟩ := hA j x hx
 refine ⟨g, o, e, k.cellAt h1 fun e2 => ?_⟩
 have e3 : g = b := e2
 subst e3
 rw [cell_of_cells h] at h1
 obtain ⟨q, hq⟩ : ∃ q, q = o + j := ⟨_, rfl⟩
 rw [← hq] at h1
 match q, h1 with
 | 0, h1 => cases h1
 | 1, h1 => cases h1
 | q + 2, h1 => simp at h1
theorem wp_region_later_tail {P : Program} {id : Nat} {Q : Exit → Act → World → Prop} {a : Act} {w : World} {l : List Oper} (n : Nat) (hm : P.follows .mixedOrders = true) (hB : Region.lexTailB .any l.toArray n = true)
  (h : wpQuiet P l.toArray (fun w' => ∃ x : Later w, w' = x.w) (fun a' => ∀ w', (∃ x : Later w, w' = x.w) → wpList P l.toArray Q (l.drop n) a' w') (l.take n) a) : (Code.region id l.toArray true).wp P Q a w :=
 wp_region_quiet_tail (C := fun w' => ∃ x : Later w, w' = x.w) n hm hB ⟨⟨w.drew, (Below.refl _ _).drew⟩, rfl⟩ h
theorem count_c (b : Nat) (n : Int) (c : Nat) (w : World) (h : Hs w b n c) (hc : c ≤ 1000000000) :
  Calls Tryz.prog 72 #[.pointer (some ⟨b, 0, none⟩)] w fun e w' => e = .returned (.tuple #[]) ∧ w' = w.setCell ⟨b, 0, none⟩ (.int .i64 ((c : Int) + 1)) := by
 have h0 := h.cell0
 have hfz : w.frozen? ⟨b, 0, none⟩ = false := frozen_of_row w _ _ _ _ h
 clear h
 go_enter Tryz.func72, Tryz.ntmps72
 go_wp2
 go_end0
 exact ⟨rfl, rfl⟩
theorem sum_hs (b : Nat) (n : Int) (c : Nat) (A : Option Addr) (l : List UInt8) (cap : Nat) (w : World) (h : Hs w b n c) (hc : c ≤ 1000000000) (hA : BA w A l) (hcap : l.length ≤ cap) (hl : l.length ≤ 900000) (hv : Vars w) :
  Calls Tryz.prog 46 #[ptr b, .slice A l.length cap] w fun e w' => e = .returned (.agg (bA (digL n l))) ∧ Hs w' b n (c + 1) ∧ Keep (fun i => i = b) w w' := by
 have K1 : Keep (fun i => i = b) w (w.alloc (.cells (bA z26) 46)) := (Keep.refl _ w).alloc _
 have K0 : Keep (fun _ => False) w (w.alloc (.cells (bA z26) 46)) := (Keep.refl _ w).alloc _
 have hb := lt_of_heap h
 have H1 := Lib.hid (h.keep K0 fun h => h)
 have HC := Lib.hid (count_c b n c _ H1.out hc)
 have hvs := h.vars hv
 have HV := Lib.hid (hv.keep (K1.trans (Keep.cell _ ⟨b, 0, none⟩ (.int .i64 ((c : Int) + 1)))) (fun e => hvs.1 e.symm) (fun e => hvs.2 e.symm))
 have HA := Lib.hid (h.ba hA (K1.trans (Keep.cell _ ⟨b, 0, none⟩ (.int .i64 ((c : Int) + 1)))))
 have HK := Lib.hid (K1.trans (Keep.cell _ ⟨b, 0, none⟩ (.int .i64 ((c : Int) + 1))))
 have HR : Hid (((w.alloc (.cells (bA z26) 46)).setCell ⟨b, 0, none⟩ (.int .i64 ((c : Int) + 1))).heap[w.heap.size]? = some (.cells (bA z26) 46 (0, 0))) := by
  show _ = _
  rw [Below.heap_setCell _ _ _ _ (by show ¬ _ = b; omega)]
  exact heap_alloc_new w _
 have H2 := Lib.hid H1.out.set
 clear h hA hv hvs K1 K0 H1
 unfold ptr
 go_enter Tryz.func46, Tryz.ntmps46
 go_wp2_with fail
 refine HC.out.mono ?_
 rintro e w2 ⟨rfl, hw2⟩
 rw [← hw2] at HV HA HK HR H2
 clear hw2 HC
 have la : ∀ x : Later w2, x.w.cell? ⟨b, 1, none⟩ = some (.int .i64 n) := fun x => (H2.out.keep (Keep.of_below (L := fun _ => False) x.h) fun h => h).cell1
 have HS : Hid (∀ x : Later w2, Calls Tryz.prog 74 #[.slice A l.length cap] x.w fun e w'' => e = .returned (.agg (bA (sumL l))) ∧ ∃ y : Later w2, w'' = y.w) := fun x =>
  have hvx := HV.out.below x.h
  Later.call (sum_c A cap l x.w (HA.out.below x.h) hcap hvx.kt hvx.it (by omega))
 have HCut : Hid (∀ x : Later w2, Calls Tryz.prog 73 #[.agg (bA (sumL l)), .int .i64 n] x.w fun e w'' => e = .returned (.agg (bA (digL n l))) ∧ ∃ y : Later w2, w'' = y.w) := fun x =>
  Later.call (cut_c (sumL l) n x.w (sumL_len _))
 go_wp2_with fail
 refine wp_region_later_tail 7 (by kernel_rfl) (by kernel_rfl) ?_
 simp only [List.take_succ_cons, List.take_zero, List.drop_succ_cons, List.drop_zero]
 repeat (go_big_quiet_step ((first
  | (go_at_call 74; exact HS.out _)
  | (go_at_call 73; exact HCut.out _))))
 refine wpQuiet_nil ?_
 rintro _ ⟨x, rfl⟩
 clear la HS HCut
 have HRx := Lib.hid (x.block HR.out)
 have st1 : stA 46 x.w (.pointer (some ⟨w.heap.size, 0, none⟩)) (.agg (bA (digL n l))) = .ok .skip (x.w.setRow w.heap.size (bA (digL n l))) := stA_row HRx.out (by rw [bA_size, dig_len]; exact info26) (by rw [bA_size, bA_size, dig_len]; rfl) (bA_one _)
 have HM := Lib.hid (setRow_heap x.w w.heap.size _ (bA (digL n l)) _ _ HRx.out)
 have HF : Hid (Hs (x.w.setRow w.heap.size (bA (digL n l))) b n (c + 1)) := (H2.out.keep (Keep.of_below (L := fun _ => False) x.h) fun h => h).keep (Keep.row x.w w.heap.size _) (by omega)
 have HKf : Hid (Keep (fun i => i = b) w (x.w.setRow w.heap.size (bA (digL n l)))) := (HK.out.trans (Keep.of_below x.h)).step (Keep.row x.w w.heap.size _) fun i hi => .inr (by omega)
 go_wp2_with fail
 refine bodyPost_ret (v := .agg (bA (digL n l))) ?_ rfl ⟨rfl, HF.out, HKf.out⟩
 exact results_cell_row Tryz.results46 _ _ w.heap.size 46 _ (0, 0) _ rfl HM.out Tryz.underlying46 rfl (by rw [bA_size, dig_len]; exact info26)
end
section
open Go.RowKit
theorem hs_new (w : World) (n : Int) : Hs (w.alloc (.cells #[.int .i64 0, .int .i64 n] 95)) w.heap.size n 0 := heap_alloc_last w _
theorem new_c (n : Int) (w : World) (h0 : 0 ≤ n) (h1 : n ≤ 256) : Calls Tryz.prog 32 #[.int .i64 n] w fun e w' => ∃ b, e = .returned (.tuple #[ptr b, .int .i64 0]) ∧ w.heap.size ≤ b ∧ Hs w' b n 0 ∧ Below w.heap.size w w' := by
 have d0 : decide (n < 0) = false := decide_eq_false (by omega)
 have d1 : decide (256 < n) = false := decide_eq_false (by omega)
 go_enter Tryz.func32, Tryz.ntmps32
 go_wp2
 go_ret2
 exact ⟨w.heap.size, rfl, Nat.le_refl _, hs_new w n, (Below.refl _ _).alloc (Nat.le_refl _) _⟩
theorem out_c (n : Int) (w : World) (h : n < 0 ∨ 256 < n) : Calls Tryz.prog 32 #[.int .i64 n] w fun e w' => e = .returned (.tuple #[.pointer none, .int .i64 4]) ∧ Below w.heap.size w w' := by
 by_cases h0 : n < 0
 ·have d0 : decide (n < 0) = true := decide_eq_true h0
  go_enter Tryz.func32, Tryz.ntmps32
  go_wp2
  go_ret2
  exact ⟨rfl, Below.refl _ _⟩
 ·have d0 : decide (n < 0) = false := decide_eq_false h0
  have h1 : 256 < n := by omega
  have d1 : decide (256 < n) = true := decide_eq_true h1
  clear h
  go_enter Tryz.func32, Tryz.ntmps32
  go_wp2
  go_ret2
  exact ⟨rfl, Below.refl _ _⟩
end
end Go.Proofs.YtkejfdgmdjfdoaaGreatDoor
