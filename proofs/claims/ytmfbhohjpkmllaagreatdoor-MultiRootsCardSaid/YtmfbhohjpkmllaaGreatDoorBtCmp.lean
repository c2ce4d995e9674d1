import Derived.Test.YtmfbhohjpkmllaaGreatDoorM3
set_option linter.unusedSimpArgs false
set_option linter.unusedVariables false
set_option maxHeartbeats 400000
namespace Go.Proofs.YtmfbhohjpkmllaaGreatDoor.Bt
open Go.RowKit
theorem compare_c (a b : Nat → Nat) (ha : Byt a) (hb : Byt b) (w : World) :
  Calls Tryz.prog 67 #[.agg (kc a), .agg (kc b)] w fun e w' => e = .returned (.int .i64 (cmp a b)) ∧ Below w.heap.size w w' := by
 by_cases hk : keq a b = true
 ·have HK := Lib.hid ((keq_iff a b).1 hk)
  go_enter Tryz.func67, Tryz.ntmps67
  go_wp2
  go_ret
  exact ⟨ret_int (by rw [cmp_eq HK.out]), two_below _ _ _⟩
 ·have hk : keq a b = false := by simpa using hk
  have hn : common a b < 256 := by
   rcases Nat.lt_or_ge (common a b) 256 with h | h
   ·exact h
   ·have := (keq_iff a b).2 (common_full ha hb (by have := (common_spec a b).1; omega))
    rw [hk] at this; cases this
  have hcm := cmp_bit ha hb hn
  have hne := (common_spec a b).2.2 hn
  have l1 := bit_lt a (common a b)
  have l2 := bit_lt b (common a b)
  have hbi : bitI a (common a b) = bit a (common a b) := by unfold bitI; rw [if_pos ⟨by omega, by omega⟩]; simp
  by_cases hz : bit a (common a b) = 0
  ·have e : (bitI a (common a b) == 0) = true := by rw [hbi, hz]; rfl
   have HC : Hid (cmp a b = -1) := by show cmp a b = -1; omega
   clear hcm hne l1 l2 hbi hz hn
   go_enter Tryz.func67, Tryz.ntmps67
   go_wp2_with fail
   have la := fun x : Later ((w.alloc (.cells (kc a) 39)).alloc (.cells (kc b) 39)) => x.ld_two
   have lb := fun x : Later ((w.alloc (.cells (kc a) 39)).alloc (.cells (kc b) 39)) => x.ld_two'
   refine wp_region_later (by kernel_rfl) (by kernel_rfl) ?_
   repeat (go_big_quiet_step ((first | (go_at_call 92; exact Later.call (common_c _ _ (by assumption) (by assumption) _)) | (go_at_call 77; exact Later.call (bit_c _ (by assumption) _ _)))))
   refine wpQuiet_nil ?_
   rintro _ ⟨x, rfl⟩
   clear la lb
   go_wp2
   go_ret
   exact ⟨ret_int (by rw [HC.out]), x.two⟩
  ·have e : (bitI a (common a b) == 0) = false := by rw [hbi]; simpa using hz
   have HC : Hid (cmp a b = 1) := by show cmp a b = 1; omega
   clear hcm hne l1 l2 hbi hz hn
   go_enter Tryz.func67, Tryz.ntmps67
   go_wp2_with fail
   have la := fun x : Later ((w.alloc (.cells (kc a) 39)).alloc (.cells (kc b) 39)) => x.ld_two
   have lb := fun x : Later ((w.alloc (.cells (kc a) 39)).alloc (.cells (kc b) 39)) => x.ld_two'
   refine wp_region_later (by kernel_rfl) (by kernel_rfl) ?_
   repeat (go_big_quiet_step ((first | (go_at_call 92; exact Later.call (common_c _ _ (by assumption) (by assumption) _)) | (go_at_call 77; exact Later.call (bit_c _ (by assumption) _ _)))))
   refine wpQuiet_nil ?_
   rintro _ ⟨x, rfl⟩
   clear la lb
   go_wp2
   go_ret
   exact ⟨ret_int (by rw [HC.out]), x.two⟩
end Go.Proofs.YtmfbhohjpkmllaaGreatDoor.Bt
