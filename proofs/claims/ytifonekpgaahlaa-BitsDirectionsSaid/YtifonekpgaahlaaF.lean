/- The six statements' functions return true. -/
import Derived.Test.YtifonekpgaahlaaE
namespace Go.Proofs.Ytifonekpgaahlaa
open Go.RowKit

theorem keq_self (a : Nat → Nat) : keq a a = true := (keq_iff a a).2 fun _ _ => rfl
def Yes (w : World) (e : Ending) (w' : World) : Prop := e = .returned (.bool true) ∧ Below w.heap.size w w'

set_option maxRecDepth 100000 in
set_option maxHeartbeats 1000000 in
theorem match_w (k : Nat → Nat) (hk : Byt k) (i : Int) (w : World) : Calls Try.prog 3 #[.agg (kc k), .int .i64 i] w (Yes w) := by
  have hf := flipI_byt hk i
  have f1 : keq (flipI k i) (flipI k i) = true := keq_self _
  have f2 : keq (flipI (flipI k i) i) k = true := by rw [flipI_flipI]; exact keq_self _
  go_enter Try.func3, Try.ntmps3
  go_wp2_with fail
  have la := fun x : Later (w.alloc (.cells (kc k) 23)) => x.ld_one
  refine wp_region_later (by kernel_rfl) (by kernel_rfl) ?_
  repeat (go_big_quiet_step ((first | (go_at_call 9; exact Later.call (alive_c _)) | (go_at_call 10; exact Later.call (bit_c _ (by assumption) _ _)) | (go_at_call 11; exact Later.call (rbit_c _ (by assumption) _ _)) | (go_at_call 12; exact Later.call (flip_c _ (by assumption) _ _)) | (go_at_call 13; exact Later.call (rflip_c _ (by assumption) _ _)))))
  refine wpQuiet_nil ?_
  rintro _ ⟨x, rfl⟩
  clear la f1 f2
  go_wp2
  go_ret
  exact ⟨rfl, x.one⟩

set_option maxRecDepth 100000 in
set_option maxHeartbeats 1000000 in
theorem common_w (a b : Nat → Nat) (ha : Byt a) (hb : Byt b) (w : World) : Calls Try.prog 4 #[.agg (kc a), .agg (kc b)] w (Yes w) := by
  have hc := common_comm a b
  by_cases hn : common a b = 256
  · have hk : keq a b = true := (keq_iff a b).2 (common_full ha hb hn)
    have hd : ((common a b : Nat) : Int) == 256 := by rw [hn]; rfl
    clear hn
    go_enter Try.func4, Try.ntmps4
    go_wp2_with fail
    have KA0 := KeyAt.two w a (.cells (kc b) 23)
    have KB0 := KeyAt.two' w b (.cells (kc a) 23)
    have H0 : Hid (Below w.heap.size w ((w.alloc (.cells (kc a) 23)).alloc (.cells (kc b) 23))) := two_below _ _ _
    refine (common_c _ _ (by assumption) (by assumption) _).mono ?_
    rintro e w1 ⟨rfl, h1⟩
    have KA1 := KA0.below h1 KA0.lt
    have KB1 := KB0.below h1 KB0.lt
    have H1 : Hid (Below w.heap.size w w1) := H0.out.trans (h1.mono H0.out.size)
    have la1 := KA1.ld
    have lb1 := KB1.ld
    clear h1
    go_wp2_with fail
    refine (rcommon_c _ _ (by assumption) (by assumption) _).mono ?_
    rintro e w2 ⟨rfl, h2⟩
    have KA2 := KA1.below h2 KA1.lt
    have KB2 := KB1.below h2 KB1.lt
    have H2 : Hid (Below w.heap.size w w2) := H1.out.trans (h2.mono H1.out.size)
    have la2 := KA2.ld
    have lb2 := KB2.ld
    clear h2
    go_wp2_with fail
    refine (common_c _ _ (by assumption) (by assumption) _).mono ?_
    rintro e w3 ⟨rfl, h3⟩
    have KA3 := KA2.below h3 KA2.lt
    have KB3 := KB2.below h3 KB2.lt
    have H3 : Hid (Below w.heap.size w w3) := H2.out.trans (h3.mono H2.out.size)
    have la3 := KA3.ld
    have lb3 := KB3.ld
    clear h3
    go_wp2_with fail
    refine (alive_c _).mono ?_
    rintro e w4 ⟨rfl, h4⟩
    have KA4 := KA3.below h4 KA3.lt
    have KB4 := KB3.below h4 KB3.lt
    have H4 : Hid (Below w.heap.size w w4) := H3.out.trans (h4.mono H3.out.size)
    have la4 := KA4.ld
    have lb4 := KB4.ld
    clear h4
    go_wp2
    go_ret
    exact ⟨rfl, H4.out⟩
  · have hlt : common a b < 256 := by have := (common_spec a b).1; omega
    have hd : (((common a b : Nat) : Int) == 256) = false := by simp; omega
    have hk : keq a b = false := by
      cases h : keq a b with
      | false => rfl
      | true => exact absurd (common_all ((keq_iff a b).1 h)) hn
    have ea : bitI a (common a b) = bit a (common a b) := by unfold bitI; rw [if_pos ⟨by omega, by omega⟩, Int.toNat_natCast]
    have eb : bitI b (common a b) = bit b (common a b) := by unfold bitI; rw [if_pos ⟨by omega, by omega⟩, Int.toNat_natCast]
    have hcm := cmp_bit ha hb hlt
    have hne := (common_spec a b).2.2 hlt
    have l1 := bit_lt a (common a b)
    have l2 := bit_lt b (common a b)
    have a0 : 0 ≤ bitI a (common a b) := by omega
    have a1 : bitI a (common a b) ≤ 1 := by omega
    have b0 : 0 ≤ bitI b (common a b) := by omega
    have b1 : bitI b (common a b) ≤ 1 := by omega
    have e1 : (bitI a (common a b) + bitI b (common a b) == 1) = true := by rw [beq_iff_eq]; omega
    have e2 : (cmp a b == bitI a (common a b) - bitI b (common a b)) = true := by rw [beq_iff_eq]; omega
    clear hn hlt ea eb hcm hne l1 l2
    go_enter Try.func4, Try.ntmps4
    go_wp2_with fail
    have KA0 := KeyAt.two w a (.cells (kc b) 23)
    have KB0 := KeyAt.two' w b (.cells (kc a) 23)
    have H0 : Hid (Below w.heap.size w ((w.alloc (.cells (kc a) 23)).alloc (.cells (kc b) 23))) := two_below _ _ _
    refine (common_c _ _ (by assumption) (by assumption) _).mono ?_
    rintro e w1 ⟨rfl, h1⟩
    have KA1 := KA0.below h1 KA0.lt
    have KB1 := KB0.below h1 KB0.lt
    have H1 : Hid (Below w.heap.size w w1) := H0.out.trans (h1.mono H0.out.size)
    have la1 := KA1.ld
    have lb1 := KB1.ld
    clear h1
    go_wp2_with fail
    refine (rcommon_c _ _ (by assumption) (by assumption) _).mono ?_
    rintro e w2 ⟨rfl, h2⟩
    have KA2 := KA1.below h2 KA1.lt
    have KB2 := KB1.below h2 KB1.lt
    have H2 : Hid (Below w.heap.size w w2) := H1.out.trans (h2.mono H1.out.size)
    have la2 := KA2.ld
    have lb2 := KB2.ld
    clear h2
    go_wp2_with fail
    refine (common_c _ _ (by assumption) (by assumption) _).mono ?_
    rintro e w3 ⟨rfl, h3⟩
    have KA3 := KA2.below h3 KA2.lt
    have KB3 := KB2.below h3 KB2.lt
    have H3 : Hid (Below w.heap.size w w3) := H2.out.trans (h3.mono H2.out.size)
    have la3 := KA3.ld
    have lb3 := KB3.ld
    clear h3
    go_wp2_with fail
    have la := fun x : Later w3 => (KA3.below x.h KA3.lt).ld
    have lb := fun x : Later w3 => (KB3.below x.h KB3.lt).ld
    clear la1 lb1 la2 lb2 la3 lb3
    refine wp_region_later (by kernel_rfl) (by kernel_rfl) ?_
    repeat (go_big_quiet_step ((first | (go_at_call 9; exact Later.call (alive_c _)) | (go_at_call 10; exact Later.call (bit_c _ (by assumption) _ _)) | (go_at_call 16; exact Later.call (compare_c _ _ (by assumption) (by assumption) _)))))
    refine wpQuiet_nil ?_
    rintro _ ⟨x, rfl⟩
    clear la lb
    go_wp2
    go_ret
    exact ⟨rfl, H3.out.trans (x.h.mono H3.out.size)⟩
end Go.Proofs.Ytifonekpgaahlaa
