/- The example of the chapter. -/
import Derived.Test.YtnmjcfpmljahcaaDoorH
import Derived.Test.YtnmjcfpmljahcaaDoorK
namespace Go.Proofs.YtnmjcfpmljahcaaDoor
open Go.RowKit

theorem m_error44 (h : Value) (w : World) : (Go.method 242 44 h "Error").run Tryd.prog w = .ok (18, h) w := by kernel_rfl
theorem na_error44 (a : Addr) (w : World) : (nilAhead 242 44 (.pointer (some a)) "Error").run Tryd.prog w = .ok (some false) w := by kernel_rfl
theorem itoa_small (n : Nat) (h : n < 10) : Lib.itoa (n : Int) = [UInt8.ofNat (48 + n)] := by
  unfold Lib.itoa
  rw [if_neg (by omega), Int.toNat_natCast, Lib.decDigits, dif_pos h]
def putS : ByteArray := ⟨#[112, 117, 116]⟩
theorem ex_text : textL [⟨putS, 3⟩] (errText 2) = [112, 117, 116, 32, 51, 58, 32, 101, 114, 114, 111, 114, 32, 50] := by
  have h3 := itoa_small 3 (by decide)
  have h2 := itoa_small 2 (by decide)
  rw [show ((3 : Nat) : Int) = 3 from rfl] at h3
  rw [show ((2 : Nat) : Int) = 2 from rfl] at h2
  unfold textL textL frag errText
  simp only [h3, h2]
  rfl
theorem ex_chain (w : World) : Chain (w.alloc (.cells #[.string ⟨#[112, 117, 116]⟩, .int .i64 3, .iface 31 (.int .i64 2)] 42)) (.iface 31 (.int .i64 2)) [⟨w.heap.size, putS, 3⟩] (.iface 44 (.pointer (some ⟨w.heap.size, 0, none⟩))) :=
  ⟨rfl, _, heap_alloc_new w _, rfl⟩
theorem ex_error (w : World) (b : Nat) (hc : Chain w (.iface 31 (.int .i64 2)) [⟨b, putS, 3⟩] (.iface 44 (.pointer (some ⟨b, 0, none⟩)))) : Calls Tryd.prog 18 #[.pointer (some ⟨b, 0, none⟩)] w fun e w' =>
    e = .returned (.string ⟨#[112, 117, 116, 32, 51, 58, 32, 101, 114, 114, 111, 114, 32, 50]⟩) ∧ Below w.heap.size w w' := by
  refine (ferror_c [⟨b, putS, 3⟩] 2 b w hc ?_ ?_ (.inl ⟨2, by decide, rfl⟩) (by simp)).mono ?_
  · intro s hs
    simp [Fr.st] at hs
    subst hs
    exact ⟨by decide, by decide, by decide⟩
  · intro f hf
    simp at hf
    subst hf
    exact .inl ⟨3, by decide, rfl⟩
  · rintro e w' ⟨rfl, hb⟩
    refine ⟨?_, hb⟩
    have : (textL (List.map Fr.st [⟨b, putS, 3⟩]) (errText 2)) = [112, 117, 116, 32, 51, 58, 32, 101, 114, 114, 111, 114, 32, 50] := ex_text
    rw [this]

set_option maxHeartbeats 8000000 in
set_option maxRecDepth 100000 in
theorem alive_c (w : World) (hv : ErrVar w) : Calls Tryd.prog 10 #[] w fun e w' => e = .returned (.bool true) ∧ Below w.heap.size w w' := by
  have HV := Lib.hid hv
  clear hv
  have mE := m_error44
  have nE := na_error44
  go_enter Tryd.func10, Tryd.ntmps10
  go_wp2_with (go_at_call 19; refine (new_c _ _ _ _ _).mono ?_; rintro e w' ⟨rfl, rfl⟩)
  obtain ⟨W, hW⟩ : ∃ W, W = w.alloc (.cells #[.string ⟨#[112, 117, 116]⟩, .int .i64 3, .iface 31 (.int .i64 2)] 42) := ⟨_, rfl⟩
  have hC := ex_chain w
  rw [← hW] at hC ⊢
  have hB : Below w.heap.size w W := by rw [hW]; exact (Below.refl _ _).alloc (Nat.le_refl _) _
  have hh : W.heap[w.heap.size]? = some (.cells #[.string ⟨#[112, 117, 116]⟩, .int .i64 3, .iface 31 (.int .i64 2)] 42 (0, 0)) := by rw [hW]; exact heap_alloc_new w _
  have HC := Lib.hid hC
  have HB := Lib.hid hB
  have HH := Lib.hid hh
  have HV0 := Lib.hid (HV.out.below hB)
  clear hC hB hh hW HV
  obtain ⟨b, hb⟩ : ∃ b, b = w.heap.size := ⟨_, rfl⟩
  rw [← hb] at HC HH ⊢
  have Hb := Lib.hid hb
  clear hb
  refine (first_some b _ _ _ _ HH.out).mono ?_
  rintro e w1 ⟨rfl, hB1⟩
  have HC1 := Lib.hid (HC.out.below hB1)
  have HV1 := Lib.hid (HV0.out.below hB1)
  have HB1 := Lib.hid (HB.out.trans (hB1.mono HB.out.size))
  clear hB1
  go_wp2_with fail
  refine (ex_error w1 b HC1.out).mono ?_
  rintro e w2 ⟨rfl, hB2⟩
  have HC2 := Lib.hid (HC1.out.below hB2)
  have HV2 := Lib.hid (HV1.out.below hB2)
  have HB2 := Lib.hid (HB1.out.trans (hB2.mono HB1.out.size))
  clear hB2
  go_wp2_with fail
  refine (code_some [⟨b, putS, 3⟩] 2 _ w2 HC2.out HV2.out (by simp)).mono ?_
  rintro e w3 ⟨rfl, hB3⟩
  have HC3 := Lib.hid (HC2.out.below hB3)
  have HV3 := Lib.hid (HV2.out.below hB3)
  have HB3 := Lib.hid (HB2.out.trans (hB3.mono HB2.out.size))
  clear hB3
  go_wp2_with fail
  refine (code_nil _).mono ?_
  rintro e w' ⟨rfl, rfl⟩
  go_wp2_with fail
  refine (is_some [⟨b, putS, 3⟩] 2 2 _ w3 HC3.out (by simp)).mono ?_
  rintro e w4 ⟨rfl, hB4⟩
  have HC4 := Lib.hid (HC3.out.below hB4)
  have HV4 := Lib.hid (HV3.out.below hB4)
  have HB4 := Lib.hid (HB3.out.trans (hB4.mono HB3.out.size))
  clear hB4
  go_wp2_with fail
  refine (is_some [⟨b, putS, 3⟩] 2 1 _ w4 HC4.out (by simp)).mono ?_
  rintro e w5 ⟨rfl, hB5⟩
  have HC5 := Lib.hid (HC4.out.below hB5)
  have HV5 := Lib.hid (HV4.out.below hB5)
  have HB5 := Lib.hid (HB4.out.trans (hB5.mono HB4.out.size))
  clear hB5
  go_wp2_with fail
  refine (new_nil _ _ _).mono ?_
  rintro e w' ⟨rfl, rfl⟩
  go_wp2
  go_ret
  exact ⟨rfl, HB5.out⟩
end Go.Proofs.YtnmjcfpmljahcaaDoor
