/- The functions of BitmapOf and BitmapHas return true. -/
import Derived.Test.YtpdmkojclgkcnaaHh
import Derived.Test.YtpdmkojclgkcnaaBtRbit
namespace Go.Proofs.Ytpdmkojclgkcnaa.Bt
open Go.RowKit

def Yes (w : World) (e : Ending) (w' : World) : Prop := e = .returned (.bool true) ∧ Below w.heap.size w w'
theorem keq_refl (k : Nat → Nat) : keq k k = true := (keq_iff _ _).2 fun _ _ => rfl

set_option maxRecDepth 100000 in
set_option maxHeartbeats 1000000 in
theorem bof_w (A : Option Addr) (c : Nat) (l : List Int) (w : World) (hA : ZA w A l) : Calls Try.prog 3 #[.slice A l.length c] w (Yes w) := by
  by_cases h : 300 < l.length
  · have hd : decide ((300 : Int) < l.length) = true := by simp; omega
    clear h hA
    go_enter Try.func3, Try.ntmps3
    go_wp2_with fail
    refine (alive14_c _).mono ?_
    rintro e w1 ⟨rfl, hb⟩
    have HB := Lib.hid hb
    clear hb
    go_wp2
    go_ret
    exact ⟨rfl, HB.out⟩
  · have hd : decide ((300 : Int) < l.length) = false := by simp; omega
    have hq := keq_refl (ofK l)
    have HA := Lib.hid hA
    have HL : Hid (l.length ≤ 4611686018427387904) := by show _ ≤ _; omega
    clear h hA
    go_enter Try.func3, Try.ntmps3
    go_wp2_with fail
    refine (alive14_c _).mono ?_
    rintro e w1 ⟨rfl, hb⟩
    have HB := Lib.hid hb
    have HA1 := Lib.hid (HA.out.below hb)
    clear hb
    go_wp2_with fail
    refine (ofs_c A c l _ HA1.out HL.out).mono ?_
    rintro e w2 ⟨rfl, hb⟩
    have HB2 := Lib.hid (HB.out.trans (hb.mono HB.out.size))
    have HA2 := Lib.hid (HA1.out.below hb)
    clear hb
    go_wp2_with fail
    refine (rbytes_c A c l _ HA2.out HL.out).mono ?_
    rintro e w3 ⟨rfl, hb⟩
    have HB3 := Lib.hid (HB2.out.trans (hb.mono HB2.out.size))
    clear hb
    go_wp2
    go_ret
    exact ⟨rfl, HB3.out⟩
set_option maxRecDepth 100000 in
set_option maxHeartbeats 1000000 in
theorem bhas_w (k : Nat → Nat) (hk : Byt k) (i : Int) (w : World) : Calls Try.prog 4 #[.agg (kc k), .int .i64 i] w (Yes w) := by
  obtain ⟨t, ht⟩ : ∃ t : Int, t = bitI k i := ⟨_, rfl⟩
  obtain ⟨q, hq⟩ : ∃ q : Bool, q = (t == 1) := ⟨_, rfl⟩
  have HC : Hid (∀ w, Calls Try.prog 12 #[.agg (kc k), .int .i64 i] w fun e w' => e = .returned (.bool q) ∧ Below w.heap.size w w') := fun w => by rw [hq, ht]; exact has_c k hk i w
  have HR : Hid (∀ w, Calls Try.prog 13 #[.agg (kc k), .int .i64 i] w fun e w' => e = .returned (.int .i64 t) ∧ Below w.heap.size w w') := fun w => by rw [ht]; exact rbit_c k hk i w
  have hq' : (t == 1) = q := hq.symm
  have hqq : (q == q) = true := by simp
  clear ht hq hk
  go_enter Try.func4, Try.ntmps4
  go_wp2_with fail
  have la := fun x : Later (w.alloc (.cells (kc k) 25)) => x.ldBm_one
  refine wp_region_later (by kernel_rfl) (by kernel_rfl) ?_
  repeat (go_big_quiet_step ((first | (go_at_call 9; exact Later.call (alive14_c _)) | (go_at_call 12; exact Later.call (HC.out _)) | (go_at_call 13; exact Later.call (HR.out _)))))
  refine wpQuiet_nil ?_
  rintro _ ⟨x, rfl⟩
  clear la
  go_wp2
  go_ret
  exact ⟨rfl, x.one⟩
end Go.Proofs.Ytpdmkojclgkcnaa.Bt
