/- 'alive' of layer 14 returns true: the example of the chapter. -/
import Derived.Test.YtpdmkojclgkcnaaHg
namespace Go.Proofs.Ytpdmkojclgkcnaa.Bt
open Go.RowKit

def a14 : Nat → Nat := ofK [0, 9, 9, 300]
def b14 : Nat → Nat := upd (upd kz 0 128) 1 64
def c14 : Nat → Nat := ofK [9]
theorem byt_a14 : Byt a14 := ofK_byt _
theorem of_ex {A : Option Addr} {c : Nat} {w : World} (hA : ZA w A [0, 9, 9, 300]) : Calls Try.prog 10 #[.slice A 4 c] w fun e w' => e = .returned (.agg (kc a14)) ∧ Below w.heap.size w w' :=
  ofs_c A c [0, 9, 9, 300] w hA (by decide)
theorem of_ex9 {A : Option Addr} {c : Nat} {w : World} (hA : ZA w A [9]) : Calls Try.prog 10 #[.slice A 1 c] w fun e w' => e = .returned (.agg (kc c14)) ∧ Below w.heap.size w w' :=
  ofs_c A c [9] w hA (by decide)
theorem set_ex : setZ a14 256 = [0, 9] := by decide +kernel
theorem list_ex {w : World} : Calls Try.prog 18 #[.agg (kc a14)] w fun e w' => ∃ A c, e = .returned (.slice A 2 c) ∧ ZA w' A [0, 9] ∧ Below w.heap.size w w' := by
  refine (list_c a14 byt_a14 w).mono ?_
  rintro e w' ⟨v, rfl, hO, hb⟩
  rw [set_ex] at hO
  obtain ⟨A, c, rfl, hz⟩ := hO.is
  exact ⟨A, c, rfl, hz, hb⟩
theorem same_ex {A B : Option Addr} {c d : Nat} {w : World} (hA : ZA w A [0, 9]) (hB : ZA w B [0, 9]) : Calls Try.prog 17 #[.slice A 2 c, .slice B 2 d] w fun e w' => e = .returned (.bool true) ∧ Below w.heap.size w w' := by
  have := zsame_c A B c d [0, 9] [0, 9] w hA hB (by decide) (by decide)
  rwa [decide_eq_true rfl] at this
theorem last_ex {w : World} : Calls Try.prog 19 #[.agg (kc a14)] w fun e w' => e = .returned (.int .i64 9) ∧ Below w.heap.size w w' := by
  have := last_c a14 byt_a14 w
  rwa [show lastTo a14 256 = 9 by decide +kernel] at this
theorem len_ex {w : World} : Calls Try.prog 16 #[.agg (kc a14)] w fun e w' => e = .returned (.int .i64 2) ∧ Below w.heap.size w w' := by
  have := len_c a14 byt_a14 w
  rwa [set_ex] at this
theorem has_ex9 {w : World} : Calls Try.prog 12 #[.agg (kc a14), .int .i64 9] w fun e w' => e = .returned (.bool true) ∧ Below w.heap.size w w' := by
  have := has_c a14 byt_a14 9 w
  rwa [show hasK a14 9 = true by decide +kernel] at this
theorem has_ex300 {w : World} : Calls Try.prog 12 #[.agg (kc a14), .int .i64 300] w fun e w' => e = .returned (.bool false) ∧ Below w.heap.size w w' := by
  have := has_c a14 byt_a14 300 w
  rwa [show hasK a14 300 = false by decide +kernel] at this
def d14 : Nat → Nat := insK a14 255
theorem with_ex {w : World} : Calls Try.prog 14 #[.agg (kc a14), .int .i64 255] w fun e w' => e = .returned (.agg (kc d14)) ∧ Below w.heap.size w w' := with_c a14 byt_a14 255 w
theorem last_exd {w : World} : Calls Try.prog 19 #[.agg (kc d14)] w fun e w' => e = .returned (.int .i64 255) ∧ Below w.heap.size w w' := by
  have := last_c d14 (insK_byt byt_a14 _) w
  rwa [show lastTo d14 256 = 255 by decide +kernel] at this
def e14 : Nat → Nat := delK a14 0
theorem without_ex {w : World} : Calls Try.prog 15 #[.agg (kc a14), .int .i64 0] w fun e w' => e = .returned (.agg (kc e14)) ∧ Below w.heap.size w w' := without_c a14 byt_a14 0 w
theorem last_exz {w : World} : Calls Try.prog 19 #[.agg (kc kz)] w fun e w' => e = .returned (.int .i64 (-1)) ∧ Below w.heap.size w w' := by
  have := last_c kz kz_byt w
  rwa [show lastTo kz 256 = -1 by decide +kernel] at this
theorem ZA_ex4 (w : World) : ZA (w.alloc (.cells #[.int .i64 0, .int .i64 9, .int .i64 9, .int .i64 300] 3)) (some ⟨w.heap.size, 0, none⟩) [0, 9, 9, 300] := ZA_new w [0, 9, 9, 300]
theorem ZA_ex2 (w : World) : ZA (w.alloc (.cells #[.int .i64 0, .int .i64 9] 3)) (some ⟨w.heap.size, 0, none⟩) [0, 9] := ZA_new w [0, 9]
theorem ZA_ex1 (w : World) : ZA (w.alloc (.cells #[.int .i64 9] 3)) (some ⟨w.heap.size, 0, none⟩) [9] := ZA_new w [9]
theorem set_x1 : (kc kz).setIfInBounds 0 (.int .u8 128) = kc (upd kz 0 128) := kc_set kz 0 128
theorem set_x2 : (kc (upd kz 0 128)).setIfInBounds 1 (.int .u8 64) = kc b14 := kc_set (upd kz 0 128) 1 64

set_option maxRecDepth 100000 in
set_option maxHeartbeats 2000000 in
theorem alive14_c (w : World) : Calls Try.prog 9 #[] w fun e w' => e = .returned (.bool true) ∧ Below w.heap.size w w' := by
  have q1 := set_x1
  have q2 := set_x2
  have f1 : keq a14 b14 = true := by decide +kernel
  have f2 : keq e14 c14 = true := by decide +kernel
  go_enter Try.func9, Try.ntmps9
  go_wp2_with fail
  refine (of_ex (ZA_ex4 w)).mono ?_
  rintro e w1 ⟨rfl, hb1⟩
  have HB1 : Hid (Below w.heap.size w w1) := (one_below _ _).trans (hb1.mono (by simp))
  clear hb1
  go_wp2_with fail
  refine (list_ex).mono ?_
  rintro e w2 ⟨A, c, rfl, hz, hb2⟩
  have HA2 := Lib.hid ((BmAt.one w1 a14).below hb2 (by simp))
  have HB2 : Hid (Below w.heap.size w w2) := HB1.out.trans ((one_below _ _).trans (hb2.mono (by simp)) |>.mono HB1.out.size)
  have HZ := Lib.hid hz
  clear hb2 q1 q2 f1 hz
  go_wp2_with fail
  refine (same_ex (HZ.out.below (one_below _ _)) (ZA_ex2 w2)).mono ?_
  rintro e w3 ⟨rfl, hb⟩
  have B3 : Below w2.heap.size w2 w3 := (one_below _ _).trans (hb.mono (by simp))
  have HA3 := Lib.hid (HA2.out.below B3 HA2.out.lt)
  have HB3 : Hid (Below w.heap.size w w3) := HB2.out.trans (B3.mono HB2.out.size)
  have l3 := HA3.out.ld
  clear hb B3
  go_wp2_with fail
  refine (last_ex).mono ?_
  rintro e w4 ⟨rfl, hb⟩
  have HA4 := Lib.hid (HA3.out.below hb HA3.out.lt)
  have HB4 : Hid (Below w.heap.size w w4) := HB3.out.trans (hb.mono HB3.out.size)
  have l4 := HA4.out.ld
  clear hb l3
  go_wp2_with fail
  refine (len_ex).mono ?_
  rintro e w5 ⟨rfl, hb⟩
  have HA5 := Lib.hid (HA4.out.below hb HA4.out.lt)
  have HB5 : Hid (Below w.heap.size w w5) := HB4.out.trans (hb.mono HB4.out.size)
  have l5 := HA5.out.ld
  clear hb l4
  go_wp2_with fail
  refine (has_ex9).mono ?_
  rintro e w6 ⟨rfl, hb⟩
  have HA6 := Lib.hid (HA5.out.below hb HA5.out.lt)
  have HB6 : Hid (Below w.heap.size w w6) := HB5.out.trans (hb.mono HB5.out.size)
  have l6 := HA6.out.ld
  clear hb l5
  go_wp2_with fail
  refine (has_ex300).mono ?_
  rintro e w7 ⟨rfl, hb⟩
  have HA7 := Lib.hid (HA6.out.below hb HA6.out.lt)
  have HB7 : Hid (Below w.heap.size w w7) := HB6.out.trans (hb.mono HB6.out.size)
  have l7 := HA7.out.ld
  clear hb l6
  go_wp2_with fail
  refine (with_ex).mono ?_
  rintro e w8 ⟨rfl, hb⟩
  have HA8 := Lib.hid (HA7.out.below hb HA7.out.lt)
  have HB8 : Hid (Below w.heap.size w w8) := HB7.out.trans (hb.mono HB7.out.size)
  clear hb l7
  go_wp2_with fail
  refine (last_exd).mono ?_
  rintro e w9 ⟨rfl, hb⟩
  have HA9 := Lib.hid (HA8.out.below hb HA8.out.lt)
  have HB9 : Hid (Below w.heap.size w w9) := HB8.out.trans (hb.mono HB8.out.size)
  have l9 := HA9.out.ld
  clear hb
  go_wp2_with fail
  refine (without_ex).mono ?_
  rintro e wa ⟨rfl, hb⟩
  have HBa : Hid (Below w.heap.size w wa) := HB9.out.trans (hb.mono HB9.out.size)
  clear hb l9
  go_wp2_with fail
  refine (of_ex9 (ZA_ex1 wa)).mono ?_
  rintro e wb ⟨rfl, hb⟩
  have HBb : Hid (Below w.heap.size w wb) := HBa.out.trans ((one_below _ _).trans (hb.mono (by simp)) |>.mono HBa.out.size)
  clear hb
  go_wp2_with fail
  refine (last_exz).mono ?_
  rintro e wc ⟨rfl, hb⟩
  have HBc : Hid (Below w.heap.size w wc) := HBb.out.trans (hb.mono HBb.out.size)
  clear hb f2
  go_wp2
  go_ret
  exact ⟨rfl, HBc.out⟩
end Go.Proofs.Ytpdmkojclgkcnaa.Bt
