import Derived.Test.YtmfbhohjpkmllaaGreatDoorM2
import Derived.Test.YtmfbhohjpkmllaaGreatDoorM6
import Derived.Lib.AppendZeros
namespace Go.Proofs.YtmfbhohjpkmllaaGreatDoor
set_option linter.unusedSimpArgs false
set_option linter.unusedVariables false
set_option maxHeartbeats 4000000
set_option maxRecDepth 100000
open Go.RowKit
theorem clone_new (A : Option Addr) (l : List UInt8) (c : Nat) (w : World) (hA : BA w A l) (hl : l.length ≤ 900000) :
  Calls Tryz.prog 86 #[.slice A l.length c] w fun e w' => ∃ A2 c2, e = .returned (.slice A2 l.length c2) ∧ NewB w' w.heap.size A2 c2 l ∧ Below w.heap.size w w' := by
 have q22 : ∀ (w : World) (a : Option Addr) (n c n' c' : Nat), (binOp .eql 66 (.slice a n c) (.slice none n' c')).run Tryz.prog w = .ok (.bool a.isNone) w := fun w a n c n' c' => Lib.run_eql_slice_nil w _ _ a n c n' c' Tryz.underlying66
 have hO0 : OwnB (w.alloc (.cells #[] 5)) w.heap.size (.slice (some ⟨w.heap.size, 0, none⟩) 0 0) [] := World.ownsRow_made w #[] 0 (Nat.le_refl _) (by unfold maxLen; omega) rfl
 have hB0 : Below w.heap.size w (w.alloc (.cells #[] 5)) := (Below.refl _ _).alloc (Nat.le_refl _) _
 have HO0 := Lib.hid hO0
 have HB0 := Lib.hid hB0
 have HA := Lib.hid hA
 clear hO0 hB0 hA
 cases A with
 | none =>
  have hl0 : l = [] := by
   match l, HA.out with
   | [], _ => rfl
   | x :: r, h =>
    obtain ⟨b, o, e, _⟩ := h 0 x rfl
    cases e
  subst hl0
  go_enter Tryz.func86, Tryz.ntmps86
  go_wp2
  go_ret
  exact ⟨none, 0, rfl, ⟨Nat.zero_le _, .inl rfl⟩, Below.refl _ _⟩
 | some ad =>
  go_enter Tryz.func86, Tryz.ntmps86
  go_wp2_with (at_builtin; refine wpList_catB0 rfl _ _ rfl w.heap.size w.heap.size 0 [] rfl (Nat.le_refl _) HO0.out (some ad) c l rfl (HA.out.below HB0.out) (by simp; omega) (by simp) ?_; intro v1 w1 hO1 hB1; have HO1 := Lib.hid hO1; have HB1 := Lib.hid (HB0.out.trans hB1); clear hO1 hB1)
  go_ret
  have h1 := HO1.out
  rw [List.nil_append] at h1
  obtain ⟨A2, c2, he, hc, _⟩ := h1.any
  subst he
  exact ⟨A2, c2, rfl, ⟨hc, .inr h1⟩, HB1.out⟩
end Go.Proofs.YtmfbhohjpkmllaaGreatDoor
