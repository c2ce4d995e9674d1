/- The program's hasher. -/
import Derived.Test.YtaajnjddfcdeaaaDoorDf
import Derived.Test.YtaajnjddfcdeaaaDoorMa
namespace Go.Proofs.YtaajnjddfcdeaaaDoor
open Go.RowKit

/-- A pointer to a block. -/
abbrev ptr (b : Nat) : Value := .pointer (some ⟨b, 0, none⟩)
/-- A hasher for n bits that has computed c digests lies at block b. -/
def Hs (w : World) (b : Nat) (n : Int) (c : Nat) : Prop := w.heap[b]? = some (.cells #[.int .i64 (c : Int), .int .i64 n] 87 (0, 0))
theorem Hs.cell0 {w : World} {b : Nat} {n : Int} {c : Nat} (h : Hs w b n c) : w.cell? ⟨b, 0, none⟩ = some (.int .i64 (c : Int)) := by rw [cell_of_cells h]; rfl
theorem Hs.cell1 {w : World} {b : Nat} {n : Int} {c : Nat} (h : Hs w b n c) : w.cell? ⟨b, 1, none⟩ = some (.int .i64 n) := by rw [cell_of_cells h]; rfl
theorem Hs.keep {L : Nat → Prop} {w w' : World} {b : Nat} {n : Int} {c : Nat} (h : Hs w b n c) (k : Keep L w w') (hl : ¬ L b) : Hs w' b n c := k.heap h hl
theorem Hs.set {w : World} {b : Nat} {n : Int} {c : Nat} (h : Hs w b n c) : Hs (w.setCell ⟨b, 0, none⟩ (.int .i64 ((c : Int) + 1))) b n (c + 1) := by
  unfold Hs
  rw [setCell_eq_setRow w b 0 _ _ (0, 0) _ h, setRow_heap w b _ _ _ _ h]
  rfl
theorem Hs.vars {w : World} {b : Nat} {n : Int} {c : Nat} (h : Hs w b n c) (hv : Vars w) : b ≠ 1 ∧ b ≠ 0 := by
  constructor
  · intro e
    have h1 := hv.kt 5 (by decide)
    rw [← e, cell_of_cells h] at h1
    cases h1
  · intro e
    have h1 := hv.it 5 _ (show (init8.list.map u)[5]? = some (u (init8.list.getD 5 0)) from rfl)
    rw [← e, cell_of_cells h] at h1
    cases h1
theorem Hs.ba {w w' : World} {b : Nat} {n : Int} {c : Nat} {A : Option Addr} {l : List UInt8} (h : Hs w b n c) (hA : BA w A l) (k : Keep (fun i => i = b) w w') : BA w' A l := fun j x hx => by
  obtain ⟨g, o, e, h1⟩ := hA j x hx
  refine ⟨g, o, e, k.cellAt h1 fun e2 => ?_⟩
  have e3 : g = b := e2
  subst e3
  rw [cell_of_cells h] at h1
  obtain ⟨q, hq⟩ : ∃ q, q = o + j := ⟨_, rfl⟩
  rw [← hq] at h1
  match q, h1 with
  | 0, h1 => cases h1
  | 1, h1 => cases h1
  | q + 2, h1 => simp at h1
theorem wp_region_later_tail {P : Program} {id : Nat} {Q : Exit → Act → World → Prop} {a : Act} {w : World} {l : List Oper} (n : Nat) (hm : P.follows .mixedOrders = true) (hB : Region.lexTailB .any l.toArray n = true)
    (h : wpQuiet P l.toArray (fun w' => ∃ x : Later w, w' = x.w) (fun a' => ∀ w', (∃ x : Later w, w' = x.w) → wpList P l.toArray Q (l.drop n) a' w') (l.take n) a) : (Code.region id l.toArray true).wp P Q a w :=
  wp_region_quiet_tail (C := fun w' => ∃ x : Later w, w' = x.w) n hm hB ⟨⟨w.drew, (Below.refl _ _).drew⟩, rfl⟩ h
set_option maxHeartbeats 1000000 in
set_option maxRecDepth 100000 in
theorem count_c (b : Nat) (n : Int) (c : Nat) (w : World) (h : Hs w b n c) (hc : c ≤ 1000000000) :
    Calls Tryd.prog 62 #[.pointer (some ⟨b, 0, none⟩)] w fun e w' => e = .returned (.tuple #[]) ∧ w' = w.setCell ⟨b, 0, none⟩ (.int .i64 ((c : Int) + 1)) := by
  have h0 := h.cell0
  have hfz : w.frozen? ⟨b, 0, none⟩ = false := frozen_of_row w _ _ _ _ h
  clear h
  go_enter Tryd.func62, Tryd.ntmps62
  go_wp2
  go_end0
  exact ⟨rfl, rfl⟩
set_option maxHeartbeats 4000000 in
set_option maxRecDepth 100000 in
theorem sum_hs (b : Nat) (n : Int) (c : Nat) (A : Option Addr) (l : List UInt8) (cap : Nat) (w : World) (h : Hs w b n c) (hc : c ≤ 1000000000) (hA : BA w A l) (hcap : l.length ≤ cap) (hl : l.length ≤ 900000) (hv : Vars w) :
    Calls Tryd.prog 42 #[ptr b, .slice A l.length cap] w fun e w' => e = .returned (.agg (bA (digL n l))) ∧ Hs w' b n (c + 1) ∧ Keep (fun i => i = b) w w' := by
  have K1 : Keep (fun i => i = b) w (w.alloc (.cells (bA z26) 89)) := (Keep.refl _ w).alloc _
  have K0 : Keep (fun _ => False) w (w.alloc (.cells (bA z26) 89)) := (Keep.refl _ w).alloc _
  have hb := lt_of_heap h
  have H1 := Lib.hid (h.keep K0 fun h => h)
  have HC := Lib.hid (count_c b n c _ H1.out hc)
  have hvs := h.vars hv
  have HV := Lib.hid (hv.keep (K1.trans (Keep.cell _ ⟨b, 0, none⟩ (.int .i64 ((c : Int) + 1)))) (fun e => hvs.1 e.symm) (fun e => hvs.2 e.symm))
  have HA := Lib.hid (h.ba hA (K1.trans (Keep.cell _ ⟨b, 0, none⟩ (.int .i64 ((c : Int) + 1)))))
  have HK := Lib.hid (K1.trans (Keep.cell _ ⟨b, 0, none⟩ (.int .i64 ((c : Int) + 1))))
  have HR : Hid (((w.alloc (.cells (bA z26) 89)).setCell ⟨b, 0, none⟩ (.int .i64 ((c : Int) + 1))).heap[w.heap.size]? = some (.cells (bA z26) 89 (0, 0))) := by
    show _ = _
    rw [Below.heap_setCell _ _ _ _ (by show ¬ _ = b; omega)]
    exact heap_alloc_new w _
  have H2 := Lib.hid H1.out.set
  clear h hA hv hvs K1 K0 H1
  unfold ptr
  go_enter Tryd.func42, Tryd.ntmps42
  go_wp2_with fail
  refine HC.out.mono ?_
  rintro e w2 ⟨rfl, hw2⟩
  rw [← hw2] at HV HA HK HR H2
  clear hw2 HC
  have la : ∀ x : Later w2, x.w.cell? ⟨b, 1, none⟩ = some (.int .i64 n) := fun x => (H2.out.keep (Keep.of_below (L := fun _ => False) x.h) fun h => h).cell1
  have HS : Hid (∀ x : Later w2, Calls Tryd.prog 64 #[.slice A l.length cap] x.w fun e w'' => e = .returned (.agg (bA (sumL l))) ∧ ∃ y : Later w2, w'' = y.w) := fun x =>
    have hvx := HV.out.below x.h
    Later.call (sum_c A cap l x.w (HA.out.below x.h) hcap hvx.kt hvx.it (by omega))
  have HCut : Hid (∀ x : Later w2, Calls Tryd.prog 63 #[.agg (bA (sumL l)), .int .i64 n] x.w fun e w'' => e = .returned (.agg (bA (digL n l))) ∧ ∃ y : Later w2, w'' = y.w) := fun x =>
    Later.call (cut_c (sumL l) n x.w (sumL_len _))
  go_wp2_with fail
  refine wp_region_later_tail 7 (by kernel_rfl) (by kernel_rfl) ?_
  simp only [List.take_succ_cons, List.take_zero, List.drop_succ_cons, List.drop_zero]
  repeat (go_big_quiet_step ((first
    | (go_at_call 64; exact HS.out _)
    | (go_at_call 63; exact HCut.out _))))
  refine wpQuiet_nil ?_
  rintro _ ⟨x, rfl⟩
  clear la HS HCut
  have HRx := Lib.hid (x.block HR.out)
  have st1 : stA 89 x.w (.pointer (some ⟨w.heap.size, 0, none⟩)) (.agg (bA (digL n l))) = .ok .skip (x.w.setRow w.heap.size (bA (digL n l))) := stA_row HRx.out (by rw [bA_size, dig_len]; exact info26) (by rw [bA_size, bA_size, dig_len]; rfl) (bA_one _)
  have HM := Lib.hid (setRow_heap x.w w.heap.size _ (bA (digL n l)) _ _ HRx.out)
  have HF : Hid (Hs (x.w.setRow w.heap.size (bA (digL n l))) b n (c + 1)) := (H2.out.keep (Keep.of_below (L := fun _ => False) x.h) fun h => h).keep (Keep.row x.w w.heap.size _) (by omega)
  have HKf : Hid (Keep (fun i => i = b) w (x.w.setRow w.heap.size (bA (digL n l)))) := (HK.out.trans (Keep.of_below x.h)).step (Keep.row x.w w.heap.size _) fun i hi => .inr (by omega)
  go_wp2_with fail
  refine bodyPost_ret (v := .agg (bA (digL n l))) ?_ rfl ⟨rfl, HF.out, HKf.out⟩
  exact results_cell_row Tryd.results42 _ _ w.heap.size 89 _ (0, 0) _ rfl HM.out Tryd.underlying89 rfl (by rw [bA_size, dig_len]; exact info26)
end Go.Proofs.YtaajnjddfcdeaaaDoor
