/- Several texts in one: Dg Dc. -/
import Derived.Test.YtbkokcfmndiedaaGreatDoorM2
import Derived.Test.YtbkokcfmndiedaaGreatDoorM3
/- The reference's Cut and Sum of layer 5. -/
namespace Go.Proofs.YtbkokcfmndiedaaGreatDoor
open Go.RowKit

/-- A row of 32 bytes as a key: a function of the place. -/
def kF (l : List UInt8) : Nat → Nat := fun j => (l.getD j 0).toNat
theorem kF_byt (l : List UInt8) : Bt.Byt (kF l) := fun _ => UInt8.toNat_lt _
theorem bA_kc (l : List UInt8) (h : l.length = 32) : bA l = Bt.kc (kF l) := by
  apply Array.toList_inj.1
  refine List.ext_getElem (by simp [bA, Bt.kc, h]) fun j h1 h2 => ?_
  have h3 : j < l.length := by simpa [bA] using h1
  simp [bA, Bt.kc, kF, bv, List.getD_eq_getElem?_getD, h3]
/-- The first bits of a row of 32 bytes; the other ones are 0. -/
def cutL (n : Int) (l : List UInt8) : List UInt8 := (List.range 32).map fun j => UInt8.ofNat (Bt.pre (kF l) (Bt.lim n) j)
theorem cutL_len (n : Int) (l : List UInt8) : (cutL n l).length = 32 := by simp [cutL]
theorem kc_cutL (n : Int) (l : List UInt8) : Bt.kc (Bt.pre (kF l) (Bt.lim n)) = bA (cutL n l) := by
  rw [bA_kc _ (cutL_len n l)]
  refine Bt.kc_congr fun j hj => ?_
  have hb := Bt.pre_byt (kF_byt l) (Bt.lim n) j
  simp [kF, cutL, List.getD_eq_getElem?_getD, hj]
  omega
set_option maxHeartbeats 1000000 in
theorem rcut_c (l : List UInt8) (hl : l.length = 32) (n : Int) (w : World) :
    Calls Tryz.prog 72 #[.agg (bA l), .int .i64 n] w fun e w' => e = .returned (.agg (bA (cutL n l))) ∧ Below w.heap.size w w' := by
  have hla : Hid (ldA 31 ((w.alloc (.cells (bA l) 31)).alloc (.cells (bA z26) 31)) (.pointer (some ⟨w.heap.size, 0, none⟩)) = .ok (.value (.agg (Bt.kc (kF l)))) ((w.alloc (.cells (bA l) 31)).alloc (.cells (bA z26) 31))) := by
    rw [← bA_kc l hl]
    exact ldA_row (heap_alloc2_old w _ _) Tryz.underlying31 (by rw [bA_size, hl]; exact info26)
  have la := hla.out
  go_enter Tryz.func72, Tryz.ntmps72
  go_wp2_with fail
  refine (Bt.rprefix_c (kF l) (kF_byt l) n _).mono ?_
  rintro e w1 ⟨rfl, hb⟩
  rw [kc_cutL]
  have KR : w1.heap[w.heap.size + 1]? = some (.cells (bA z26) 31 (0, 0)) := (Keep.of_below (L := fun _ => False) hb).heap (heap_alloc2_new w _ _) fun h => h
  have sb := stA_row (t := 31) KR (v := bA (cutL n l)) (by rw [bA_size, cutL_len]; exact info26) (by rw [bA_size, bA_size, cutL_len]; rfl) (bA_one _)
  have HB : Hid (Below w.heap.size w w1) := ((((Keep.refl (fun _ => False) w).alloc _).alloc _).trans (Keep.of_below hb)).below (Nat.le_refl _) fun _ h => h.elim
  have HR := Lib.hid KR
  clear hb la KR
  go_wp2
  refine bodyPost_ret (v := .agg (bA (cutL n l))) ?_ rfl ⟨rfl, Bt.below_row HB.out (by omega) _⟩
  exact results_cell_row Tryz.results72 _ _ (w.heap.size + 1) 31 _ (0, 0) _ rfl (setRow_heap w1 _ _ _ 31 _ HR.out) Tryz.underlying31 rfl (by rw [bA_size, cutL_len]; exact info26)
/-- The digest of bytes for a number of bits. -/
def digL (n : Int) (l : List UInt8) : List UInt8 := cutL n (sumL l)
set_option maxHeartbeats 1000000 in
theorem rdig_c (n : Int) (A : Option Addr) (c : Nat) (l : List UInt8) (w : World) (hA : BA w A l) (hl : l.length ≤ 1000000000) :
    Calls Tryz.prog 41 #[.int .i64 n, .slice A l.length c] w fun e w' => e = .returned (.agg (bA (digL n l))) ∧ Below w.heap.size w w' := by
  have HA : Hid (BA (w.alloc (.cells (bA z26) 31)) A l) := hA.below (((Keep.refl (fun _ => False) w).alloc _).below (Nat.le_refl _) fun _ h => h.elim)
  clear hA
  go_enter Tryz.func41, Tryz.ntmps41
  go_wp2_with fail
  refine (rsum_c A c l _ HA.out hl).mono ?_
  rintro e w1 ⟨rfl, hb⟩
  have K1 : Keep (fun _ => False) w w1 := ((Keep.refl (fun _ => False) w).alloc _).trans (Keep.of_below hb)
  have R1 : w1.heap[w.heap.size]? = some (.cells (bA z26) 31 (0, 0)) := (Keep.of_below (L := fun _ => False) hb).heap (heap_alloc_last w _) fun h => h
  have HK := Lib.hid K1
  have HR := Lib.hid R1
  clear hb K1 R1 HA
  go_wp2_with fail
  refine (rcut_c (sumL l) (by exact sumL_len l) n w1).mono ?_
  rintro e w2 ⟨rfl, hb⟩
  have KR : w2.heap[w.heap.size]? = some (.cells (bA z26) 31 (0, 0)) := (Keep.of_below (L := fun _ => False) hb).heap HR.out fun h => h
  have sb := stA_row (t := 31) KR (v := bA (digL n l)) (by rw [bA_size, digL, cutL_len]; exact info26) (by rw [bA_size, bA_size, digL, cutL_len]; rfl) (bA_one _)
  have HB : Hid (Below w.heap.size w w2) := (HK.out.trans (Keep.of_below hb)).below (Nat.le_refl _) fun _ h => h.elim
  have HR2 := Lib.hid KR
  clear hb KR HK HR
  rw [digL] at sb
  go_wp2
  refine bodyPost_ret (v := .agg (bA (digL n l))) ?_ rfl ⟨rfl, Bt.below_row HB.out (by omega) _⟩
  exact results_cell_row Tryz.results41 _ _ w.heap.size 31 _ (0, 0) _ rfl (setRow_heap w2 _ _ _ 31 _ HR2.out) Tryz.underlying31 rfl (by rw [bA_size, digL, cutL_len]; exact info26)
end Go.Proofs.YtbkokcfmndiedaaGreatDoor

/- Digests of a number of bits: plain facts. -/
namespace Go.Proofs.YtbkokcfmndiedaaGreatDoor
open Go.RowKit

theorem kF_cutL (n : Int) (l : List UInt8) (j : Nat) (hj : j < 32) : kF (cutL n l) j = Bt.pre (kF l) (Bt.lim n) j := by
  have hb := Bt.pre_byt (kF_byt l) (Bt.lim n) j
  simp [kF, cutL, List.getD_eq_getElem?_getD, hj]
  omega
theorem list_kF {a b : List UInt8} (ha : a.length = 32) (hb : b.length = 32) (h : ∀ j, j < 32 → kF a j = kF b j) : a = b := by
  refine List.ext_getElem (by omega) fun j h1 h2 => ?_
  have := h j (by omega)
  simp [kF, List.getD_eq_getElem?_getD, h1, h2] at this
  exact UInt8.toNat_inj.1 this
theorem lim_min (n m : Int) : min (Bt.lim n) (Bt.lim m) = Bt.lim (min n m) := by unfold Bt.lim; omega
theorem cut_cut (n m : Int) (l : List UInt8) : cutL m (cutL n l) = cutL (min n m) l := by
  refine list_kF (cutL_len _ _) (cutL_len _ _) ?_
  intro j hj
  rw [kF_cutL _ _ _ hj, kF_cutL _ _ _ hj, ← lim_min]
  have key := Bt.key_ext (Bt.pre_byt (kF_byt (cutL n l)) (Bt.lim m)) (Bt.pre_byt (kF_byt l) (min (Bt.lim n) (Bt.lim m))) fun i hi => by
    rw [Bt.bit_pre (kF_byt _), Bt.bit_pre (kF_byt _)]
    have hbit : Bt.bit (kF (cutL n l)) i = Bt.bit (Bt.pre (kF l) (Bt.lim n)) i := by
      unfold Bt.bit
      rw [kF_cutL _ _ _ (by omega)]
    rw [hbit, Bt.bit_pre (kF_byt _)]
    by_cases h1 : i < Bt.lim m
    · by_cases h2 : i < Bt.lim n
      · rw [if_pos h1, if_pos h2, if_pos (by omega)]
      · rw [if_pos h1, if_neg h2, if_neg (by omega)]
    · rw [if_neg h1, if_neg (by omega)]
  exact key j hj
theorem cut_all {n : Int} {l : List UInt8} (hl : l.length = 32) (h : 256 ≤ n) : cutL n l = l := by
  refine list_kF (cutL_len _ _) hl fun j hj => ?_
  rw [kF_cutL _ _ _ hj, show Bt.lim n = 256 by unfold Bt.lim; omega]
  exact Bt.pre_256 _ _ hj
theorem cut_none {n : Int} (l : List UInt8) (h : n ≤ 0) : cutL n l = z26 := by
  refine list_kF (cutL_len _ _) rfl fun j hj => ?_
  rw [kF_cutL _ _ _ hj, show Bt.lim n = 0 by unfold Bt.lim; omega]
  have hk := kF_byt l 0
  have hz : kF z26 j = 0 := by
    unfold kF z26
    rw [List.getD_eq_getElem?_getD, List.getElem?_replicate]
    split <;> rfl
  rw [hz]
  unfold Bt.pre
  rw [if_neg (by omega)]
  by_cases hj0 : j = 0 / 8
  · subst hj0
    rw [if_pos rfl]
    have : kF l (0 / 8) / 2 ^ (8 - 0 % 8) = 0 := Nat.div_eq_of_lt hk
    rw [this]
  · rw [if_neg hj0]
theorem dig_all {n : Int} (l : List UInt8) (h : 256 ≤ n) : digL n l = sumL l := cut_all (sumL_len l) h
theorem dig_none {n : Int} (l : List UInt8) (h : n ≤ 0) : digL n l = z26 := cut_none _ h
theorem cut_dig (n m : Int) (l : List UInt8) : cutL m (digL n l) = digL (min n m) l := cut_cut _ _ _
theorem dig_len (n : Int) (l : List UInt8) : (digL n l).length = 32 := cutL_len _ _
/-- Equal digests for some bits: equal for fewer. -/
theorem dig_fewer {n m : Int} {a b : List UInt8} (h : digL n a = digL n b) (hm : m ≤ n) : digL m a = digL m b := by
  have := congrArg (cutL m) h
  rwa [cut_dig, cut_dig, show min n m = m by omega] at this
theorem cut_255 : cutL 4 (255 :: 255 :: List.replicate 30 0) = 240 :: List.replicate 31 0 := by decide +kernel
theorem dig_abc : digL 4 [97, 98, 99] = 176 :: List.replicate 31 0 := by decide +kernel
end Go.Proofs.YtbkokcfmndiedaaGreatDoor
