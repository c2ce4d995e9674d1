/- The reference's two, Leaf and Node. -/
import Derived.Test.YtaajnjddfcdeaaaGreatDoorEp
namespace Go.Proofs.YtaajnjddfcdeaaaGreatDoor
open Go.RowKit

set_option maxHeartbeats 4000000 in
set_option maxRecDepth 100000 in
theorem two_c (t : UInt8) (a b : List UInt8) (ha : a.length = 32) (hb : b.length = 32) (w : World) :
    Calls Tryz.prog 92 #[.int .u8 (t.toNat : Int), .agg (bA a), .agg (bA b)] w fun e w' => ∃ v, e = .returned v ∧ OwnB w' w.heap.size v (t :: (a ++ b)) ∧ Below w.heap.size w w' := by
  have HWb : Hid (Below w.heap.size w ((w.alloc (.cells (bA a) 30)).alloc (.cells (bA b) 30))) := ((Below.refl _ _).alloc (Nat.le_refl _) _).alloc (by simp) _
  have R0 := heap_alloc2_old w (.cells (bA a) 30) (.cells (bA b) 30)
  have R1 := heap_alloc2_new w (.cells (bA a) 30) (.cells (bA b) 30)
  have hsz : ((w.alloc (.cells (bA a) 30)).alloc (.cells (bA b) 30)).heap.size = w.heap.size + 2 := by simp
  have HR0 := Lib.hid R0
  have HR1 := Lib.hid R1
  have HSZ := Lib.hid hsz
  have hla := Lib.hid ha
  have hlb := Lib.hid hb
  clear R0 R1 hsz
  go_enter Tryz.func92, Tryz.ntmps92
  go_wp2_with fail
  obtain ⟨wb, hwb⟩ : ∃ x, x = (w.alloc (.cells (bA a) 30)).alloc (.cells (bA b) 30) := ⟨_, rfl⟩
  rw [← hwb] at HWb HR0 HR1 HSZ ⊢
  rw [show w.heap.size + 1 + 1 = wb.heap.size from HSZ.out.symm]
  clear hwb
  have HO0 := Lib.hid (own_made wb t)
  have HB0 : Hid (Below wb.heap.size wb (wb.alloc (.cells #[bv t] 5))) := (Below.refl _ _).alloc (Nat.le_refl _) _
  have hsz2 : w.heap.size + 1 < wb.heap.size := by rw [HSZ.out]; omega
  go_loopg [7, 8] 32 (fun gg out i wr => ∃ k : Nat, i = .int .i64 k ∧ k ≤ 32 ∧ 32 - k = gg ∧ OwnB wr wb.heap.size out (t :: a.take k) ∧ Below wb.heap.size wb wr)
  case atStart => exact ⟨0, rfl, by omega, by omega, HO0.out, HB0.out⟩
  case round =>
    clear HO0 HB0
    obtain ⟨k, rfl, hk, rfl, hO, hB⟩ := hrel
    have HO := Lib.hid hO
    have HB := Lib.hid hB
    obtain ⟨A3, c3, rfl⟩ := hO.len
    have hlen : (t :: a.take k).length = k + 1 := by simp [hla.out]; omega
    rw [hlen] at HO ⊢
    have HLEN := Lib.hid hlen
    clear hO hB hlen
    by_cases hlt : k < 32
    · have hd : decide ((k : Int) < 32) = true := by rw [decide_eq_true_eq]; omega
      obtain ⟨x, hx⟩ : ∃ x, x = a.getD k 0 := ⟨_, rfl⟩
      have hcell : wr.cell? ⟨w.heap.size, k, none⟩ = some (.int .u8 (x.toNat : Int)) := by
        rw [HB.out.cell (p := ⟨w.heap.size, k, none⟩) (by show w.heap.size < wb.heap.size; omega), cell_of_cells HR0.out, bA_at _ _ (by rw [hla.out]; exact hlt), hx]; rfl
      have HX := Lib.hid hx
      clear hx
      go_wp2_with (at_builtin; refine wpList_pushB rfl _ _ rfl wb.heap.size _ _ rfl (OwnB.below HO.out ((Below.refl _ _).alloc (Nat.le_refl _) _)) wr.heap.size x rfl (by simp; rfl) (by rw [HLEN.out]; omega) (by have := HB.out.size; simp; omega) ?_; intro v4 w4 hO4 hB4; have HO4 := Lib.hid hO4; have HB4 := Lib.hid ((HB.out.alloc HB.out.size _).trans hB4); clear hO4 hB4)
      go_roundg (32 - (k + 1))
      case measure => omega
      case rel => exact ⟨k + 1, by go_num, by omega, rfl, by rw [take_next (by rw [hla.out]; exact hlt), ← HX.out]; exact HO4.out, HB4.out⟩
    · obtain rfl : k = 32 := by omega
      have hd : decide ((32 : Int) < 32) = false := by decide
      have HO1 : Hid (OwnB wr wb.heap.size (.slice A3 (32 + 1) c3) (t :: (a ++ b.take 0))) := by
        have h1 := HO.out
        rw [List.take_of_length_le (by rw [hla.out]; exact Nat.le_refl _)] at h1
        show OwnB _ _ _ _
        rw [List.take_zero, List.append_nil]
        exact h1
      have HB1 := Lib.hid HB.out
      clear HO HB HLEN
      go_wp2_with fail
      go_loopg [7, 9] 32 (fun gg out i wr => ∃ k : Nat, i = .int .i64 k ∧ k ≤ 32 ∧ 32 - k = gg ∧ OwnB wr wb.heap.size out (t :: (a ++ b.take k)) ∧ Below wb.heap.size wb wr)
      case atStart => exact ⟨0, rfl, by omega, by omega, HO1.out, HB1.out⟩
      case round =>
        clear HO1 HB1
        obtain ⟨k, rfl, hk, rfl, hO, hB⟩ := hrel
        have HO := Lib.hid hO
        have HB := Lib.hid hB
        obtain ⟨A4, c4, rfl⟩ := hO.len
        have hlen : (t :: (a ++ b.take k)).length = k + 33 := by simp [hla.out, hlb.out]; omega
        rw [hlen] at HO ⊢
        have HLEN := Lib.hid hlen
        clear hO hB hlen
        by_cases hlt : k < 32
        · have hd : decide ((k : Int) < 32) = true := by rw [decide_eq_true_eq]; omega
          obtain ⟨x, hx⟩ : ∃ x, x = b.getD k 0 := ⟨_, rfl⟩
          have hcell : wr.cell? ⟨w.heap.size + 1, k, none⟩ = some (.int .u8 (x.toNat : Int)) := by
            rw [HB.out.cell (p := ⟨w.heap.size + 1, k, none⟩) (by show w.heap.size + 1 < wb.heap.size; omega), cell_of_cells HR1.out, bA_at _ _ (by rw [hlb.out]; exact hlt), hx]; rfl
          have HX := Lib.hid hx
          clear hx
          go_wp2_with (at_builtin; refine wpList_pushB rfl _ _ rfl wb.heap.size _ _ rfl (OwnB.below HO.out ((Below.refl _ _).alloc (Nat.le_refl _) _)) wr.heap.size x rfl (by simp; rfl) (by rw [HLEN.out]; omega) (by have := HB.out.size; simp; omega) ?_; intro v4 w4 hO4 hB4; have HO4 := Lib.hid hO4; have HB4 := Lib.hid ((HB.out.alloc HB.out.size _).trans hB4); clear hO4 hB4)
          go_roundg (32 - (k + 1))
          case measure => omega
          case rel => exact ⟨k + 1, by go_num, by omega, rfl, by rw [take_next (by rw [hlb.out]; exact hlt), ← HX.out, ← List.append_assoc]; exact HO4.out, HB4.out⟩
        · obtain rfl : k = 32 := by omega
          have hd2 : decide ((32 : Int) < 32) = false := by decide
          have HOf : Hid (OwnB wr w.heap.size (.slice A4 (32 + 33) c4) (t :: (a ++ b))) := by
            have h1 := HO.out
            rw [List.take_of_length_le (l := b) (by rw [hlb.out]; exact Nat.le_refl _)] at h1
            exact h1.mono (by omega)
          have HBf : Hid (Below w.heap.size w wr) := HWb.out.trans (HB.out.mono (by omega))
          clear HO HB HLEN
          go_wp2_with fail
          go_ret
          exact ⟨_, rfl, HOf.out, HBf.out⟩
end Go.Proofs.YtaajnjddfcdeaaaGreatDoor
