import Derived.Test.YtkejfdgmdjfdoaaGreatDoorG2
import Derived.Test.YtkejfdgmdjfdoaaGreatDoorM4
namespace Go.Proofs.YtkejfdgmdjfdoaaGreatDoor
set_option linter.unusedSimpArgs false
set_option linter.unusedVariables false
set_option maxHeartbeats 4000000
set_option maxRecDepth 100000
section
open Go.RowKit
theorem two_c (t : UInt8) (a b : List UInt8) (ha : a.length = 32) (hb : b.length = 32) (w : World) :
  Calls Tryz.prog 92 #[.int .u8 (t.toNat : Int), .agg (bA a), .agg (bA b)] w fun e w' => ∃ v, e = .returned v ∧ OwnB w' w.heap.size v (t :: (a ++ b)) ∧ Below w.heap.size w w' := by
 have HWb : Hid (Below w.heap.size w ((w.alloc (.cells (bA a) 39)).alloc (.cells (bA b) 39))) := ((Below.refl _ _).alloc (Nat.le_refl _) _).alloc (by simp) _
 have R0 := heap_alloc2_old w (.cells (bA a) 39) (.cells (bA b) 39)
 have R1 := heap_alloc2_new w (.cells (bA a) 39) (.cells (bA b) 39)
 have hsz : ((w.alloc (.cells (bA a) 39)).alloc (.cells (bA b) 39)).heap.size = w.heap.size + 2 := by simp
 have HR0 := Lib.hid R0
 have HR1 := Lib.hid R1
 have HSZ := Lib.hid hsz
 have hla := Lib.hid ha
 have hlb := Lib.hid hb
 clear R0 R1 hsz
 go_enter Tryz.func92, Tryz.ntmps92
 go_wp2_with fail
 obtain ⟨wb, hwb⟩ : ∃ x, x = (w.alloc (.cells (bA a) 39)).alloc (.cells (bA b) 39) := ⟨_, rfl⟩
 rw [← hwb] at HWb HR0 HR1 HSZ ⊢
 rw [show w.heap.size + 1 + 1 = wb.heap.size from HSZ.out.symm]
 clear hwb
 have HO0 := Lib.hid (own_made wb t)
 have HB0 : Hid (Below wb.heap.size wb (wb.alloc (.cells #[bv t] 5))) := (Below.refl _ _).alloc (Nat.le_refl _) _
 have hsz2 : w.heap.size + 1 < wb.heap.size := by rw [HSZ.out]; omega
 go_loopg [7, 8] 32 (fun gg out i wr => ∃ k : Nat, i = .int .i64 k ∧ k ≤ 32 ∧ 32 - k = gg ∧ OwnB wr wb.heap.size out (t :: a.take k) ∧ Below wb.heap.size wb wr)
 case atStart => exact ⟨0, rfl, by omega, by omega, HO0.out, HB0.out⟩
 case round =>
  clear HO0 HB0
  obtain ⟨k, rfl, hk, rfl, hO, hB⟩ := hrel
  have HO := Lib.hid hO
  have HB := Lib.hid hB
  obtain ⟨A3, c3, rfl⟩ := hO.len
  have hlen : (t :: a.take k).length = k + 1 := by simp [hla.out]; omega
  rw [hlen] at HO ⊢
  have HLEN := Lib.hid hlen
  clear hO hB hlen
  by_cases hlt : k < 32
  ·have hd : decide ((k : Int) < 32) = true := by rw [decide_eq_true_eq]; omega
   obtain ⟨x, hx⟩ : ∃ x, x = a.getD k 0 := ⟨_, rfl⟩
   have hcell : wr.cell? ⟨w.heap.size, k, none⟩ = some (.int .u8 (x.toNat : Int)) := by
    rw [HB.out.cell (p := ⟨w.heap.size, k, none⟩) (by show w.heap.size < wb.heap.size; omega), cell_of_cells HR0.out, bA_at _ _ (by rw [hla.out]; exact hlt), hx]; rfl
   have HX := Lib.hid hx
   clear hx
   go_wp2_with (at_builtin; refine wpList_pushB rfl _ _ rfl wb.heap.size _ _ rfl (OwnB.below HO.out ((Below.refl _ _).alloc (Nat.le_refl _) _)) wr.heap.size x rfl (by simp; rfl) (by rw [HLEN.out]; omega) (by have := HB.out.size; simp; omega) ?_; intro v4 w4 hO4 hB4; have HO4 := Lib.hid hO4; have HB4 := Lib.hid ((HB.out.alloc HB.out.size _).trans hB4); clear hO4 hB4)
   go_roundg (32 - (k + 1))
   case measure => omega
   case rel => exact ⟨k + 1, by go_num, by omega, rfl, by rw [take_next (by rw [hla.out]; exact hlt), ← HX.out]; exact HO4.out, HB4.out⟩
  ·obtain rfl : k = 32 := by omega
   have hd : decide ((32 : Int) < 32) = false := by decide
   have HO1 : Hid (OwnB wr wb.heap.size (.slice A3 (32 + 1) c3) (t :: (a ++ b.take 0))) := by
    have h1 := HO.out
    rw [List.take_of_length_le (by rw [hla.out]; exact Nat.le_refl _)] at h1
    show OwnB _ _ _ _
    rw [List.take_zero, List.append_nil]
    exact h1
   have HB1 := Lib.hid HB.out
   clear HO HB HLEN
   go_wp2_with fail
   go_loopg [7, 9] 32 (fun gg out i wr => ∃ k : Nat, i = .int .i64 k ∧ k ≤ 32 ∧ 32 - k = gg ∧ OwnB wr wb.heap.size out (t :: (a ++ b.take k)) ∧ Below wb.heap.size wb wr)
   case atStart => exact ⟨0, rfl, by omega, by omega, HO1.out, HB1.out⟩
   case round =>
    clear HO1 HB1
    obtain ⟨k, rfl, hk, rfl, hO, hB⟩ := hrel
    have HO := Lib.hid hO
    have HB := Lib.hid hB
    obtain ⟨A4, c4, rfl⟩ := hO.len
    have hlen : (t :: (a ++ b.take k)).length = k + 33 := by simp [hla.out, hlb.out]; omega
    rw [hlen] at HO ⊢
    have HLEN := Lib.hid hlen
    clear hO hB hlen
    by_cases hlt : k < 32
    ·have hd : decide ((k : Int) < 32) = true := by rw [decide_eq_true_eq]; omega
     obtain ⟨x, hx⟩ : ∃ x, x = b.getD k 0 := ⟨_, rfl⟩
     have hcell : wr.cell? ⟨w.heap.size + 1, k, none⟩ = some (.int .u8 (x.toNat : Int)) := by
      rw [HB.out.cell (p := ⟨w.heap.size + 1, k, none⟩) (by show w.heap.size + 1 < wb.heap.size; omega), cell_of_cells HR1.out, bA_at _ _ (by rw [hlb.out]; exact hlt), hx]; rfl
     have HX := Lib.hid hx
     clear hx
     go_wp2_with (at_builtin; refine wpList_pushB rfl _ _ rfl wb.heap.size _ _ rfl (OwnB.below HO.out ((Below.refl _ _).alloc (Nat.le_refl _) _)) wr.heap.size x rfl (by simp; rfl) (by rw [HLEN.out]; omega) (by have := HB.out.size; simp; omega) ?_; intro v4 w4 hO4 hB4; have HO4 := Lib.hid hO4; have HB4 := Lib.hid ((HB.out.alloc HB.out.size _).trans hB4); clear hO4 hB4)
     go_roundg (32 - (k + 1))
     case measure => omega
     case rel => exact ⟨k + 1, by go_num, by omega, rfl, by rw [take_next (by rw [hlb.out]; exact hlt), ← HX.out, ← List.append_assoc]; exact HO4.out, HB4.out⟩
    ·obtain rfl : k = 32 := by omega
     have hd2 : decide ((32 : Int) < 32) = false := by decide
     have HOf : Hid (OwnB wr w.heap.size (.slice A4 (32 + 33) c4) (t :: (a ++ b))) := by
      have h1 := HO.out
      rw [List.take_of_length_le (l := b) (by rw [hlb.out]; exact Nat.le_refl _)] at h1
      exact h1.mono (by omega)
     have HBf : Hid (Below w.heap.size w wr) := HWb.out.trans (HB.out.mono (by omega))
     clear HO HB HLEN
     go_wp2_with fail
     go_ret
     exact ⟨_, rfl, HOf.out, HBf.out⟩
end
section
open Go.RowKit
theorem range_row {w : World} {b : Nat} {l : List UInt8} {t : TypeId} {fr : Nat × Nat} (h : w.heap[b]? = some (.cells (bA l) t fr)) (o n : Nat) : w.rangeAt b o (((l.drop o).take n).map bv) := fun j v hv => by
 rw [cell_of_cells h]
 rw [List.getElem?_map, List.getElem?_take] at hv
 split at hv
 ·rw [List.getElem?_drop] at hv
  obtain ⟨x, hx, rfl⟩ := Option.map_eq_some_iff.1 hv
  have hlt := (List.getElem?_eq_some_iff.1 hx).1
  rw [bA_at _ _ hlt]
  simp [List.getD_eq_getElem?_getD, hx]
 ·simp at hv
theorem ldA_part {w : World} {b : Nat} {l : List UInt8} {t t' : TypeId} {e n : Nat} {fr : Nat × Nat} (h : w.heap[b]? = some (.cells (bA l) t' fr)) (o : Nat) (hu : Tryz.prog.underlying t = some (.array n e)) (hi : (Tryz.prog.info? t).map (·.size) = some ((l.drop o).take 32).length) :
  ldA t w (.pointer (some ⟨b, o, none⟩)) = .ok (.value (.agg (bA ((l.drop o).take 32)))) w := by
 have := ldA_of (t := t) (range_row h o 32) hu (by rw [hi, List.length_map])
 rwa [show (((l.drop o).take 32).map bv).toArray = bA ((l.drop o).take 32) from rfl] at this
theorem rleaf_c (k d : List UInt8) (hk : k.length = 32) (hd : d.length = 32) (w : World) :
  Calls Tryz.prog 61 #[.agg (bA (k ++ d))] w fun e w' => ∃ v, e = .returned v ∧ OwnB w' w.heap.size v (leafL k d) ∧ Below w.heap.size w w' := by
 have hr := heap_alloc_new w (.cells (bA (k ++ d)) 125)
 have e1 : ((k ++ d).drop 0).take 32 = k := by rw [List.drop_zero, List.take_append_of_le_length (by omega), List.take_of_length_le (by omega)]
 have e2 : ((k ++ d).drop 32).take 32 = d := by rw [List.drop_append, List.drop_of_length_le (by omega), hk, List.nil_append, Nat.sub_self, List.drop_zero, List.take_of_length_le (by omega)]
 have l1 := ldA_part (t := 40) hr 0 Tryz.underlying40 (by rw [e1, hk]; exact infoKey)
 have l2 := ldA_part (t := 46) hr 32 Tryz.underlying46 (by rw [e2, hd]; exact info26)
 rw [e1] at l1
 rw [e2] at l2
 have HC := Lib.hid (two_c 0 k d hk hd (w.alloc (.cells (bA (k ++ d)) 125)))
 clear e1 e2 hr
 go_enter Tryz.func61, Tryz.ntmps61
 go_wp2_with fail
 refine HC.out.mono ?_
 rintro e w2 ⟨v, rfl, hO, hb⟩
 have HO := Lib.hid (hO.mono (show w.heap.size ≤ (w.alloc (.cells (bA (k ++ d)) 125)).heap.size by simp))
 have HB := Lib.hid (((Below.refl _ _).alloc (Nat.le_refl w.heap.size) _).trans (hb.mono (by simp)))
 clear hO hb l1 l2
 go_wp2_with fail
 go_ret
 exact ⟨_, rfl, HO.out, HB.out⟩
theorem rnode_c (k d : List UInt8) (hk : k.length = 32) (hd : d.length = 32) (w : World) :
  Calls Tryz.prog 64 #[.agg (bA k), .agg (bA d)] w fun e w' => ∃ v, e = .returned v ∧ OwnB w' w.heap.size v (nodeL k d) ∧ Below w.heap.size w w' := by
 have l1 := ldA_row (t := 46) (heap_alloc2_old w (.cells (bA k) 46) (.cells (bA d) 46)) Tryz.underlying46 (by rw [bA_size, hk]; exact info26)
 have l2 := ldA_row (t := 46) (heap_alloc2_new w (.cells (bA k) 46) (.cells (bA d) 46)) Tryz.underlying46 (by rw [bA_size, hd]; exact info26)
 have HC := Lib.hid (two_c 1 k d hk hd ((w.alloc (.cells (bA k) 46)).alloc (.cells (bA d) 46)))
 have HB0 : Hid (Below w.heap.size w ((w.alloc (.cells (bA k) 46)).alloc (.cells (bA d) 46))) := ((Below.refl _ _).alloc (Nat.le_refl _) _).alloc (by simp) _
 go_enter Tryz.func64, Tryz.ntmps64
 go_wp2_with fail
 refine HC.out.mono ?_
 rintro e w2 ⟨v, rfl, hO, hb⟩
 have HO := Lib.hid (hO.mono HB0.out.size)
 have HB := Lib.hid (HB0.out.trans (hb.mono HB0.out.size))
 clear hO hb l1 l2
 go_wp2_with fail
 go_ret
 exact ⟨_, rfl, HO.out, HB.out⟩
end
section
open Go.RowKit
theorem rempty_c (n : Int) (w : World) : Calls Tryz.prog 59 #[.int .i64 n] w fun e w' => e = .returned (.agg (bA (digL n emptyL))) ∧ Below w.heap.size w w' := by
 obtain ⟨X, hX⟩ : ∃ X, X = w.alloc (.cells (bA z26) 46) := ⟨_, rfl⟩
 have hb0 : Below w.heap.size w X := by rw [hX]; exact (Below.refl _ _).alloc (Nat.le_refl _) _
 have hrow : RowB X w.heap.size 46 z26 := by rw [hX]; exact RowB.alloc w _ _
 have HSZ : Hid (w.heap.size + 1 = X.heap.size) := by show _ = _; rw [hX]; simp
 have HX := Lib.hid hX
 have HB0 := Lib.hid hb0
 have HRW := Lib.hid hrow
 have hgl : (digL n emptyL).length = 32 := dig_len _ _
 have HS : Hid (∀ Y : World, Calls Tryz.prog 60 #[.int .i64 n, .slice (some ⟨Y.heap.size, 0, none⟩) 1 1] (Y.alloc (.cells #[bv 3] 5)) fun e w' => e = .returned (.agg (bA (digL n emptyL))) ∧ Below (Y.alloc (.cells #[bv 3] 5)).heap.size (Y.alloc (.cells #[bv 3] 5)) w') := fun Y => by
  obtain ⟨A1, c1, he, hc1, hA1⟩ := (own_made Y 3).any
  cases he
  exact rdig_c n _ _ emptyL _ hA1 (by decide)
 obtain ⟨g, hg⟩ : ∃ g, g = digL n emptyL := ⟨_, rfl⟩
 rw [← hg] at HS hgl ⊢
 have HGL := Lib.hid hgl
 clear hX hb0 hrow hg hgl
 go_enter Tryz.func59, Tryz.ntmps59
 go_wp2_with fail
 rw [← HX.out, HSZ.out]
 clear HX
 refine (HS.out X).mono ?_
 rintro _ w2 ⟨rfl, hb⟩
 have hb1 : Below X.heap.size X w2 := ((Below.refl _ _).alloc (Nat.le_refl X.heap.size) _).trans (hb.mono (by simp))
 have HB2 := Lib.hid (HB0.out.trans (hb1.mono HB0.out.size))
 have HR2 := Lib.hid (HRW.out.below hb1)
 have sb := stA_row (t := 46) HR2.out (v := bA g) (by rw [bA_size, HGL.out]; exact info26) (by rw [bA_size, bA_size, HGL.out]; rfl) (bA_one _)
 clear hb hb1
 go_wp2
 refine bodyPost_ret (v := .agg (bA g)) ?_ rfl ⟨rfl, Bt.below_row HB2.out (by omega) _⟩
 exact results_cell_row Tryz.results59 _ _ w.heap.size 46 _ (0, 0) _ rfl (setRow_heap w2 _ _ _ 46 _ HR2.out) Tryz.underlying46 rfl (by rw [bA_size, HGL.out]; exact info26)
def rootK : Nat → Int → List Ent → Int → List UInt8
 | 0, n, l, _ => match l with
  | [] => digL n emptyL
  | e :: _ => digL n (leafL e.k (digL n (valL e.v)))
 | f + 1, n, l, d => match l with
  | [] => digL n emptyL
  | [e] => digL n (leafL e.k (digL n (valL e.v)))
  | _ :: _ :: _ => digL n (nodeL (rootK f n (partK l d 0) (d + 1)) (rootK f n (partK l d 1) (d + 1)))
theorem rootK_len (f : Nat) (n : Int) (l : List Ent) (d : Int) : (rootK f n l d).length = 32 := by
 cases f with
 | zero => unfold rootK; split <;> exact dig_len _ _
 | succ f => unfold rootK; split <;> exact dig_len _ _
theorem rootK_none (f : Nat) (n : Int) (d : Int) : rootK f n [] d = digL n emptyL := by cases f <;> rfl
theorem rootK_one (f : Nat) (n : Int) (e : Ent) (d : Int) : rootK f n [e] d = digL n (leafL e.k (digL n (valL e.v))) := by cases f <;> rfl
theorem rootK_two (f : Nat) (n : Int) (l : List Ent) (d : Int) (h : 2 ≤ l.length) : rootK (f + 1) n l d = digL n (nodeL (rootK f n (partK l d 0) (d + 1)) (rootK f n (partK l d 1) (d + 1))) := by
 match l, h with
 | _ :: _ :: _, _ => rfl
theorem partE_ent (l : List En) (d b : Int) : (partE l d b).map En.ent = partK (l.map En.ent) d b := by
 unfold partE partK
 rw [List.filter_map]
 rfl
theorem partE_len (l : List En) (d b : Int) : (partE l d b).length ≤ l.length := List.length_filter_le _ _
theorem partE_mem {l : List En} {d b : Int} {e : En} (h : e ∈ partE l d b) : e ∈ l := (List.mem_filter.1 h).1
theorem partE_last (l : List En) (d b : Int) (hd : 256 ≤ d) (hb : 0 ≤ b) : partE l d b = [] := by
 unfold partE
 rw [List.filter_eq_nil_iff]
 intro e _
 have : bitK e.k d = -1 := by unfold bitK Bt.bitI; rw [if_neg (by omega)]
 rw [this, decide_eq_false (by omega)]
 simp
def Deep (f : Nat) (d : Int) (l : Nat) : Prop := l ≤ 1 ∨ (0 ≤ d ∧ d ≤ 256 ∧ 256 < d + f)
theorem Deep.part {f : Nat} {d : Int} {l : List En} (h : Deep (f + 1) d l.length) (hl : 2 ≤ l.length) (b : Int) (hb : 0 ≤ b) : Deep f (d + 1) (partE l d b).length := by
 rcases h with h | ⟨h0, h1, h2⟩
 ·omega
 ·by_cases hd : d = 256
  ·rw [partE_last l d b (by omega) hb]; exact .inl (Nat.zero_le _)
  ·exact .inr ⟨by omega, by omega, by omega⟩
end
end Go.Proofs.YtkejfdgmdjfdoaaGreatDoor
