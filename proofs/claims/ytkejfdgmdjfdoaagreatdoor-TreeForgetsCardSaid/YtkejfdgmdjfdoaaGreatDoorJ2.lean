import Derived.Test.YtkejfdgmdjfdoaaGreatDoorJ1
import Derived.Test.YtkejfdgmdjfdoaaGreatDoorMO
import Derived.Test.YtkejfdgmdjfdoaaGreatDoorG6
namespace Go.Proofs.YtkejfdgmdjfdoaaGreatDoor
set_option linter.unusedSimpArgs false
set_option linter.unusedVariables false
section
open Go.RowKit
def zC12 : Cn := ⟨z26, none, [], 0, false⟩
theorem back_c_z : ∀ w, (zeroValue 164).run Tryz.prog w = .ok (.agg (cnC zC12).toArray) w := fun _ => by kernel_rfl
end
section
open Go.RowKit
structure Refused (w : World) (b : Nat) (n : Int) (m : Nat) (w' : World) : Prop where
 hs : ∃ c', c' ≤ m ∧ Hs w' b n c'
 keep : Keep (fun i => i = b) w w'
structure BaV (M : World → Int → Tv → Prop) : Prop where
 apply : ∀ (w : World) (b : Nat) (n : Int) (c : Nat) (l : List Ent) (T : Tv) (A : Option Addr) (cA : Nat) (xs : List Cn), Hs w b n c → c ≤ 40000000 → Vars w → M w n T → IsMap l T → l.length ≤ 1000 → CA w A xs → xs.length ≤ cA → xs.length ≤ 50 → (∀ x ∈ xs, x.v.length ≤ 70000) →
  Calls Tryz.prog 54 #[ptr b, T.val, .slice A xs.length cA] w fun x w' =>
   (chkK (xs.map Cn.k) = 0 → ∃ T', x = .returned (.tuple #[T'.val, .int .i64 0]) ∧ IsMap (appC l (xs.map Cn.chg)) T' ∧ Made M w b n T T' (c + 90000) w') ∧
   (chkK (xs.map Cn.k) ≠ 0 → x = .returned (.tuple #[.pointer none, .int .i64 (chkK (xs.map Cn.k))]) ∧ Refused w b n (c + 90000) w')
theorem Hs.ca {w w' : World} {b : Nat} {n : Int} {c : Nat} {A : Option Addr} {xs : List Cn} (h : Hs w b n c) (hA : CA w A xs) (k : Keep (fun i => i = b) w w') : CA w' A xs := fun i x hi => by
 obtain ⟨h1, g, o, rfl, h3⟩ := hA i x hi
 have hg : g ≠ b := by
  rintro rfl
  have h2 := h3 0 (bv (x.k.getD 0 0)) (by
   unfold cnC
   rw [List.getElem?_append_left (by rw [List.length_map, h1.key]; decide), List.getElem?_map, List.getD_eq_getElem?_getD, List.getElem?_eq_getElem (by have := h1.key; omega)]
   rfl)
  rw [cell_of_cells h, Nat.add_zero] at h2
  generalize o + i * 34 = q at h2
  match q, h2 with
  | 0, h2 => cases h2
  | 1, h2 => cases h2
  | q + 2, h2 => simp at h2
 exact ⟨⟨h1.key, h1.cap, h.ba h1.val k⟩, g, o, rfl, fun j v hv => k.cellAt (h3 j v hv) hg⟩
end
end Go.Proofs.YtkejfdgmdjfdoaaGreatDoor
