import Derived.Test.YtmfbhohjpkmllaaGreatDoorEt
namespace Go.Proofs.YtmfbhohjpkmllaaGreatDoor
set_option linter.unusedSimpArgs false
set_option linter.unusedVariables false
set_option maxHeartbeats 4000000
set_option maxRecDepth 100000
section
def leafL (k d : List UInt8) : List UInt8 := 0 :: (k ++ d)
def nodeL (a b : List UInt8) : List UInt8 := 1 :: (a ++ b)
def valL (b : List UInt8) : List UInt8 := 2 :: b
def emptyL : List UInt8 := [3]
theorem leaf_len {k d : List UInt8} (hk : k.length = 32) (hd : d.length = 32) : (leafL k d).length = 65 := by simp [leafL, hk, hd]
theorem node_len {k d : List UInt8} (hk : k.length = 32) (hd : d.length = 32) : (nodeL k d).length = 65 := by simp [nodeL, hk, hd]
theorem val_len (b : List UInt8) : (valL b).length = b.length + 1 := by simp [valL]
open Go.RowKit
theorem own_made (w : World) (x : UInt8) : OwnB (w.alloc (.cells #[bv x] 5)) w.heap.size (.slice (some ⟨w.heap.size, 0, none⟩) 1 1) [x] :=
 ⟨rfl, .inr ⟨w.heap.size, 1, #[bv x], rfl, Nat.le_refl _, heap_alloc_new w _, Nat.le_refl _, by unfold maxLen; omega, rfl, rfl⟩⟩
theorem take_next {l : List UInt8} {k : Nat} (h : k < l.length) : l.take (k + 1) = l.take k ++ [l.getD k 0] := by
 rw [List.take_add_one, List.getD_eq_getElem?_getD, List.getElem?_eq_getElem h]
 rfl
end
section
open Go.RowKit
theorem rval_c (A : Option Addr) (c : Nat) (l : List UInt8) (w : World) (hA : BA w A l) (hl : l.length ≤ 1000000) :
  Calls Tryz.prog 69 #[.slice A l.length c] w fun e w' => ∃ v, e = .returned v ∧ OwnB w' w.heap.size v (valL l) ∧ Below w.heap.size w w' := by
 have HO0 := Lib.hid (own_made w 2)
 have HB0 : Hid (Below w.heap.size w (w.alloc (.cells #[bv 2] 5))) := (Below.refl _ _).alloc (Nat.le_refl _) _
 have HA := Lib.hid (hA.below HB0.out)
 clear hA
 go_enter Tryz.func69, Tryz.ntmps69
 go_wp2_with (at_builtin; refine wpList_catB1 rfl _ _ rfl w.heap.size _ [2] rfl HO0.out A c l rfl HA.out (by simp; omega) (by simp) ?_; intro v1 w1 hO1 hB1; have HO1 := Lib.hid hO1; have HB1 := Lib.hid (HB0.out.trans hB1); clear hO1 hB1)
 go_ret
 exact ⟨_, rfl, HO1.out, HB1.out⟩
end
section
open Go.RowKit
theorem two_c (t : UInt8) (a b : List UInt8) (ha : a.length = 32) (hb : b.length = 32) (w : World) :
  Calls Tryz.prog 80 #[.int .u8 (t.toNat : Int), .agg (bA a), .agg (bA b)] w fun e w' => ∃ v, e = .returned v ∧ OwnB w' w.heap.size v (t :: (a ++ b)) ∧ Below w.heap.size w w' := by
 have HWb : Hid (Below w.heap.size w ((w.alloc (.cells (bA a) 38)).alloc (.cells (bA b) 38))) := ((Below.refl _ _).alloc (Nat.le_refl _) _).alloc (by simp) _
 have R0 := heap_alloc2_old w (.cells (bA a) 38) (.cells (bA b) 38)
 have R1 := heap_alloc2_new w (.cells (bA a) 38) (.cells (bA b) 38)
 have hsz : ((w.alloc (.cells (bA a) 38)).alloc (.cells (bA b) 38)).heap.size = w.heap.size + 2 := by simp
 have HR0 := Lib.hid R0
 have HR1 := Lib.hid R1
 have HSZ := Lib.hid hsz
 have hla := Lib.hid ha
 have hlb := Lib.hid hb
 clear R0 R1 hsz
 go_enter Tryz.func80, Tryz.ntmps80
 go_wp2_with fail
 obtain ⟨wb, hwb⟩ : ∃ x, x = (w.alloc (.cells (bA a) 38)).alloc (.cells (bA b) 38) := ⟨_, rfl⟩
 rw [← hwb] at HWb HR0 HR1 HSZ ⊢
 rw [show w.heap.size + 1 + 1 = wb.heap.size from HSZ.out.symm]
 clear hwb
 have HO0 := Lib.hid (own_made wb t)
 have HB0 : Hid (Below wb.heap.size wb (wb.alloc (.cells #[bv t] 5))) := (Below.refl _ _).alloc (Nat.le_refl _) _
 have hsz2 : w.heap.size + 1 < wb.heap.size := by rw [HSZ.out]; omega
 go_loopg [7, 8] 32 (fun gg out i wr => ∃ k : Nat, i = .int .i64 k ∧ k ≤ 32 ∧ 32 - k = gg ∧ OwnB wr wb.heap.size out (t :: a.take k) ∧ Below wb.heap.size wb wr)
 case atStart => exact ⟨0, rfl, by omega, by omega, HO0.out, HB0.out⟩
 case round =>
  clear HO0 HB0
  obtain ⟨k, rfl, hk, rfl, hO, hB⟩ := hrel
  have HO := Lib.hid hO
  have HB := Lib.hid hB
  obtain ⟨A3, c3, rfl⟩ := hO.len
  have hlen : (t :: a.take k).length = k + 1 := by simp [hla.out]; omega
  rw [hlen] at HO ⊢
  have HLEN := Lib.hid hlen
  clear hO hB hlen
  by_cases hlt : k < 32
  ·have hd : decide ((k : Int) < 32) = true := by rw [decide_eq_true_eq]; omega
   obtain ⟨x, hx⟩ : ∃ x, x = a.getD k 0 := ⟨_, rfl⟩
   have hcell : wr.cell? ⟨w.heap.size, k, none⟩ = some (.int .u8 (x.toNat : Int)) := by
    rw [HB.out.cell (p := ⟨w.heap.size, k, none⟩) (by show w.heap.size < wb.heap.size; omega), cell_of_cells HR0.out, bA_at _ _ (by rw [hla.out]; exact hlt), hx]; rfl
   have HX := Lib.hid hx
   clear hx
   go_wp2_with (at_builtin; refine wpList_pushB rfl _ _ rfl wb.heap.size _ _ rfl (OwnB.below HO.out ((Below.refl _ _).alloc (Nat.le_refl _) _)) wr.heap.size x rfl (by simp; rfl) (by rw [HLEN.out]; omega) (by have := HB.out.size; simp; omega) ?_; intro v4 w4 hO4 hB4; have HO4 := Lib.hid hO4; have HB4 := Lib.hid ((HB.out.alloc HB.out.size _).trans hB4); clear hO4 hB4)
   go_roundg (32 - (k + 1))
   case measure => omega
   case rel => exact ⟨k + 1, by go_num, by omega, rfl, by rw [take_next (by rw [hla.out]; exact hlt), ← HX.out]; exact HO4.out, HB4.out⟩
  ·obtain rfl : k = 32 := by omega
   have hd : decide ((32 : Int) < 32) = false := by decide
   have HO1 : Hid (OwnB wr wb.heap.size (.slice A3 (32 + 1) c3) (t :: (a ++ b.take 0))) := by
    have h1 := HO.out
    rw [List.take_of_length_le (by rw [hla.out]; exact Nat.le_refl _)] at h1
    show OwnB _ _ _ _
    rw [List.take_zero, List.append_nil]
    exact h1
   have HB1 := Lib.hid HB.out
   clear HO HB HLEN
   go_wp2_with fail
   go_loopg [7, 9] 32 (fun gg out i wr => ∃ k : Nat, i = .int .i64 k ∧ k ≤ 32 ∧ 32 - k = gg ∧ OwnB wr wb.heap.size out (t :: (a ++ b.take k)) ∧ Below wb.heap.size wb wr)
   case atStart => exact ⟨0, rfl, by omega, by omega, HO1.out, HB1.out⟩
   case round =>
    clear HO1 HB1
    obtain ⟨k, rfl, hk, rfl, hO, hB⟩ := hrel
    have HO := Lib.hid hO
    have HB := Lib.hid hB
    obtain ⟨A4, c4, rfl⟩ := hO.len
    have hlen : (t :: (a ++ b.take k)).length = k + 33 := by simp [hla.out, hlb.out]; omega
    rw [hlen] at HO ⊢
    have HLEN := Lib.hid hlen
    clear hO hB hlen
    by_cases hlt : k < 32
    ·have hd : decide ((k : Int) < 32) = true := by rw [decide_eq_true_eq]; omega
     obtain ⟨x, hx⟩ : ∃ x, x = b.getD k 0 := ⟨_, rfl⟩
     have hcell : wr.cell? ⟨w.heap.size + 1, k, none⟩ = some (.int .u8 (x.toNat : Int)) := by
      rw [HB.out.cell (p := ⟨w.heap.size + 1, k, none⟩) (by show w.heap.size + 1 < wb.heap.size; omega), cell_of_cells HR1.out, bA_at _ _ (by rw [hlb.out]; exact hlt), hx]; rfl
     have HX := Lib.hid hx
     clear hx
     go_wp2_with (at_builtin; refine wpList_pushB rfl _ _ rfl wb.heap.size _ _ rfl (OwnB.below HO.out ((Below.refl _ _).alloc (Nat.le_refl _) _)) wr.heap.size x rfl (by simp; rfl) (by rw [HLEN.out]; omega) (by have := HB.out.size; simp; omega) ?_; intro v4 w4 hO4 hB4; have HO4 := Lib.hid hO4; have HB4 := Lib.hid ((HB.out.alloc HB.out.size _).trans hB4); clear hO4 hB4)
     go_roundg (32 - (k + 1))
     case measure => omega
     case rel => exact ⟨k + 1, by go_num, by omega, rfl, by rw [take_next (by rw [hlb.out]; exact hlt), ← HX.out, ← List.append_assoc]; exact HO4.out, HB4.out⟩
    ·obtain rfl : k = 32 := by omega
     have hd2 : decide ((32 : Int) < 32) = false := by decide
     have HOf : Hid (OwnB wr w.heap.size (.slice A4 (32 + 33) c4) (t :: (a ++ b))) := by
      have h1 := HO.out
      rw [List.take_of_length_le (l := b) (by rw [hlb.out]; exact Nat.le_refl _)] at h1
      exact h1.mono (by omega)
     have HBf : Hid (Below w.heap.size w wr) := HWb.out.trans (HB.out.mono (by omega))
     clear HO HB HLEN
     go_wp2_with fail
     go_ret
     exact ⟨_, rfl, HOf.out, HBf.out⟩
end
section
open Go.RowKit
theorem range_row {w : World} {b : Nat} {l : List UInt8} {t : TypeId} {fr : Nat × Nat} (h : w.heap[b]? = some (.cells (bA l) t fr)) (o n : Nat) : w.rangeAt b o (((l.drop o).take n).map bv) := fun j v hv => by
 rw [cell_of_cells h]
 rw [List.getElem?_map, List.getElem?_take] at hv
 split at hv
 ·rw [List.getElem?_drop] at hv
  obtain ⟨x, hx, rfl⟩ := Option.map_eq_some_iff.1 hv
  have hlt := (List.getElem?_eq_some_iff.1 hx).1
  rw [bA_at _ _ hlt]
  simp [List.getD_eq_getElem?_getD, hx]
 ·simp at hv
theorem ldA_part {w : World} {b : Nat} {l : List UInt8} {t t' : TypeId} {e n : Nat} {fr : Nat × Nat} (h : w.heap[b]? = some (.cells (bA l) t' fr)) (o : Nat) (hu : Tryz.prog.underlying t = some (.array n e)) (hi : (Tryz.prog.info? t).map (·.size) = some ((l.drop o).take 32).length) :
  ldA t w (.pointer (some ⟨b, o, none⟩)) = .ok (.value (.agg (bA ((l.drop o).take 32)))) w := by
 have := ldA_of (t := t) (range_row h o 32) hu (by rw [hi, List.length_map])
 rwa [show (((l.drop o).take 32).map bv).toArray = bA ((l.drop o).take 32) from rfl] at this
theorem rleaf_c (k d : List UInt8) (hk : k.length = 32) (hd : d.length = 32) (w : World) :
  Calls Tryz.prog 52 #[.agg (bA (k ++ d))] w fun e w' => ∃ v, e = .returned v ∧ OwnB w' w.heap.size v (leafL k d) ∧ Below w.heap.size w w' := by
 have hr := heap_alloc_new w (.cells (bA (k ++ d)) 57)
 have e1 : ((k ++ d).drop 0).take 32 = k := by rw [List.drop_zero, List.take_append_of_le_length (by omega), List.take_of_length_le (by omega)]
 have e2 : ((k ++ d).drop 32).take 32 = d := by rw [List.drop_append, List.drop_of_length_le (by omega), hk, List.nil_append, Nat.sub_self, List.drop_zero, List.take_of_length_le (by omega)]
 have l1 := ldA_part (t := 39) hr 0 Tryz.underlying39 (by rw [e1, hk]; exact infoKey)
 have l2 := ldA_part (t := 45) hr 32 Tryz.underlying45 (by rw [e2, hd]; exact info26)
 rw [e1] at l1
 rw [e2] at l2
 have HC := Lib.hid (two_c 0 k d hk hd (w.alloc (.cells (bA (k ++ d)) 57)))
 clear e1 e2 hr
 go_enter Tryz.func52, Tryz.ntmps52
 go_wp2_with fail
 refine HC.out.mono ?_
 rintro e w2 ⟨v, rfl, hO, hb⟩
 have HO := Lib.hid (hO.mono (show w.heap.size ≤ (w.alloc (.cells (bA (k ++ d)) 57)).heap.size by simp))
 have HB := Lib.hid (((Below.refl _ _).alloc (Nat.le_refl w.heap.size) _).trans (hb.mono (by simp)))
 clear hO hb l1 l2
 go_wp2_with fail
 go_ret
 exact ⟨_, rfl, HO.out, HB.out⟩
theorem rnode_c (k d : List UInt8) (hk : k.length = 32) (hd : d.length = 32) (w : World) :
  Calls Tryz.prog 53 #[.agg (bA k), .agg (bA d)] w fun e w' => ∃ v, e = .returned v ∧ OwnB w' w.heap.size v (nodeL k d) ∧ Below w.heap.size w w' := by
 have l1 := ldA_row (t := 45) (heap_alloc2_old w (.cells (bA k) 45) (.cells (bA d) 45)) Tryz.underlying45 (by rw [bA_size, hk]; exact info26)
 have l2 := ldA_row (t := 45) (heap_alloc2_new w (.cells (bA k) 45) (.cells (bA d) 45)) Tryz.underlying45 (by rw [bA_size, hd]; exact info26)
 have HC := Lib.hid (two_c 1 k d hk hd ((w.alloc (.cells (bA k) 45)).alloc (.cells (bA d) 45)))
 have HB0 : Hid (Below w.heap.size w ((w.alloc (.cells (bA k) 45)).alloc (.cells (bA d) 45))) := ((Below.refl _ _).alloc (Nat.le_refl _) _).alloc (by simp) _
 go_enter Tryz.func53, Tryz.ntmps53
 go_wp2_with fail
 refine HC.out.mono ?_
 rintro e w2 ⟨v, rfl, hO, hb⟩
 have HO := Lib.hid (hO.mono HB0.out.size)
 have HB := Lib.hid (HB0.out.trans (hb.mono HB0.out.size))
 clear hO hb l1 l2
 go_wp2_with fail
 go_ret
 exact ⟨_, rfl, HO.out, HB.out⟩
end
end Go.Proofs.YtmfbhohjpkmllaaGreatDoor
