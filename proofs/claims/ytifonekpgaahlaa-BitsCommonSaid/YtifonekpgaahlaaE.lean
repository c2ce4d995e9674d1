/- 'alive' returns true: the examples of the chapter. -/
import Derived.Test.YtifonekpgaahlaaD
namespace Go.Proofs.Ytifonekpgaahlaa
open Go.RowKit

/-- The key with this first byte and zeros. -/
def kf (x : Nat) : Nat → Nat := fun j => if j = 0 then x else 0
theorem kf_byt (x : Nat) (h : x < 256) : Byt (kf x) := fun j => by unfold kf; split <;> omega

set_option maxRecDepth 100000 in
set_option maxHeartbeats 1000000 in
theorem alive_c (w : World) : Calls Try.prog 9 #[] w fun e w' => e = .returned (.bool true) ∧ Below w.heap.size w w' := by
  have ba : (kc kz).setIfInBounds 0 (.int .u8 160) = kc (kf 160) := by kernel_rfl
  have bb : (kc kz).setIfInBounds 0 (.int .u8 128) = kc (kf 128) := by kernel_rfl
  have ha := kf_byt 160 (by decide)
  have hb := kf_byt 128 (by decide)
  go_enter Try.func9, Try.ntmps9
  go_wp2_with fail
  refine (directions_c (kf 160) ha 4 _).mono ?_
  rintro e w1 ⟨rfl, KD, hB⟩
  have l4 : lim 4 = 4 := by decide
  rw [l4] at KD ⊢
  have KA := (KeyAt.two w (kf 160) (.cells (kc (kf 128)) 23)).below hB (by simp; omega)
  have KB := (KeyAt.two' w (kf 128) (.cells (kc (kf 160)) 23)).below hB (by simp)
  have HB : Hid (Below w.heap.size w w1) := (two_below _ _ _).trans (hB.mono (by simp; omega))
  have hsz : ((w.alloc (.cells (kc (kf 160)) 23)).alloc (.cells (kc (kf 128)) 23)).heap.size + 1 = w.heap.size + 1 + 1 + 1 := by simp
  rw [hsz] at KD ⊢
  clear hsz hB l4
  have cd : ∀ x : Later w1, x.w.cell? ⟨w.heap.size + 1 + 1 + 1, 2, none⟩ = some (.int .i64 1) := fun x => by
    have := (KD.below x.h KD.lt).cell (j := 2) (by decide)
    rw [this, if_pos (by decide), show bit (kf 160) 2 = 1 by decide +kernel]
    rfl
  have la := fun x : Later w1 => (KA.below x.h KA.lt).ld
  have lb := fun x : Later w1 => (KB.below x.h KB.lt).ld
  have f1 : bitI (kf 160) 0 = 1 := by decide +kernel
  have f2 : bitI (kf 160) 1 = 0 := by decide +kernel
  have f3 : bitI (kf 160) 256 = -1 := by decide +kernel
  have f4 : common (kf 160) (kf 128) = 2 := by decide +kernel
  have f5 : keq (flipI (kf 160) 2) (kf 128) = true := by decide +kernel
  have f6 : keq (pre (kf 160) (lim 2)) (kf 128) = true := by decide +kernel
  have f7 : cmp (kf 128) (kf 160) = -1 := by decide +kernel
  go_wp2_with fail
  refine wp_region_later (by kernel_rfl) (by kernel_rfl) ?_
  repeat (go_big_quiet_step ((first | (go_at_call 10; exact Later.call (bit_c _ (by assumption) _ _)) | (go_at_call 14; exact Later.call (common_c _ _ (by assumption) (by assumption) _)) | (go_at_call 12; exact Later.call (flip_c _ (by assumption) _ _)) | (go_at_call 17; exact Later.call (prefix_c _ (by assumption) _ _)) | (go_at_call 16; exact Later.call (compare_c _ _ (by assumption) (by assumption) _)))))
  refine wpQuiet_nil ?_
  rintro _ ⟨x, rfl⟩
  clear cd la lb f1 f2 f3 f4 f5 f6 f7
  go_wp2
  go_ret
  exact ⟨rfl, HB.out.trans (x.h.mono HB.out.size)⟩
end Go.Proofs.Ytifonekpgaahlaa
