import Derived.Test.YtjgdindjimbfeaaGreatDoorM3
import Derived.Test.YtjgdindjimbfeaaGreatDoorTG
import Derived.Deep.MidRow
set_option linter.unusedSimpArgs false
set_option linter.unusedVariables false
set_option maxHeartbeats 4000000
set_option maxRecDepth 100000
namespace Go.Proofs.YtjgdindjimbfeaaGreatDoor.Bt
open Go.RowKit
def kof (l : List UInt8) (m : Nat) : Nat → Nat := fun j => if j < m then (l.getD j 0).toNat else 0
theorem kof_zero (l : List UInt8) : kof l 0 = kz := by funext j; simp [kof, kz]
theorem kof_step (l : List UInt8) (m : Nat) : upd (kof l m) m (l.getD m 0).toNat = kof l (m + 1) := by
 funext j
 unfold upd kof
 by_cases e : j = m
 ·subst e; simp
 ·by_cases h : j < m
  ·rw [if_neg e, if_pos h, if_pos (by omega)]
  ·rw [if_neg e, if_neg h, if_neg (by omega)]
theorem rof_c (A : Option Addr) (c : Nat) (l : List UInt8) (w : World) (hA : BA w A l) (hl : l.length = 32) :
  Calls Tryz.prog 33 #[.slice A l.length c] w fun e w' => e = .returned (.agg (kc (kof l 32))) ∧ Below w.heap.size w w' := by
 rw [hl]
 have HL := Lib.hid hl
 clear hl
 have h0 : KeyAt ((w.alloc (.cells (kc kz) 48)).alloc (.cells (kc kz) 48)) (w.heap.size + 1) (kof l 0) := by rw [kof_zero]; exact KeyAt.two' w kz _
 go_enter Tryz.func33, Tryz.ntmps33
 go_wp2
 go_loopw [4] (fun i wr => ∃ m : Nat, i = .int .i64 m ∧ m ≤ 32 ∧ KeyAt wr w.heap.size kz ∧ KeyAt wr (w.heap.size + 1) (kof l m) ∧ Below w.heap.size w wr) (fun i _ => 32 - (intOf i).toNat)
 case atStart => exact ⟨0, rfl, by omega, KeyAt.two w kz _, h0, two_below _ _ _⟩
 case round =>
  obtain ⟨m, rfl, hm, KA, KB, hB⟩ := hrel
  have HB := Lib.hid hB
  clear hB h0
  by_cases hlt : m < 32
  ·obtain ⟨x, hx⟩ := get_some (show m < l.length by rw [HL.out]; exact hlt)
   obtain ⟨b, o, rfl, hc⟩ := (hA.below HB.out) m x hx
   have HX : Hid ((l.getD m 0).toNat = x.toNat) := by show (l.getD m 0).toNat = x.toNat; simp [List.getD, hx]
   have cb := KB.cell hlt
   have fb := KB.free m
   clear hx hA
   go_wp2
   go_roundw
   case rel =>
    refine ⟨m + 1, by go_num, by omega, KA.set_other (by omega) _ _, ?_, HB.out.setCell (by simp) _⟩
    have := KB.set m (l.getD m 0).toNat
    rwa [kof_step, HX.out] at this
   case measure => simp [intOf]; omega
  ·have st := KA.st (kof l m)
   have lb := KB.ld
   clear hA
   go_wp2
   refine bodyPost_ret (v := .agg (kc (kof l 32))) ?_ rfl ⟨rfl, below_row HB.out (by omega) _⟩
   have e : m = 32 := by omega
   subst e
   exact results_cell_row Tryz.results33 _ _ w.heap.size 48 _ (0, 0) _ rfl (KA.row _) Tryz.underlying48 rfl (by rw [kc_size]; exact info23)
end Go.Proofs.YtjgdindjimbfeaaGreatDoor.Bt
