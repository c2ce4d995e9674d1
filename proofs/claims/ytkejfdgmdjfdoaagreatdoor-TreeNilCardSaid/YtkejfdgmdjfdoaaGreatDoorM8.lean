import Derived.Test.YtkejfdgmdjfdoaaGreatDoorGn
import Derived.ProofKit
import Derived.OpenShut
import Derived.Deep.Slices
import Derived.Deep.Fields
import Derived.Deep.MidRow
import Derived.Carry
import Derived.ChangeSlices
import Derived.ChangeSame
import Derived.ChangeVars
import Derived.ChangeMaps5
import Derived.JoinedOf
import Derived.LaidLaws
import Derived.LaidHandle
import Derived.Lib.SmallJoins
import Derived.Lib.LaidTab
import Derived.Stop.Joined
import Derived.Stop.LaidErr
import Derived.Test.YtkejfdgmdjfdoaaGreatDoorEt
import Derived.Test.YtkejfdgmdjfdoaaGreatDoorM4
namespace Go.Proofs.YtkejfdgmdjfdoaaGreatDoor
set_option linter.unusedSimpArgs false
set_option linter.unusedVariables false
set_option maxRecDepth 100000
section
open Go.ChangeShapes Go.WideShapes Go.ChangeAt Go.RowKit Go.Joins Go.Deep
variable {H : Type} {enc : TypeId × Value → H}
theorem cellsB : Tryz.prog.cellsOf 5 = 1 := by kernel_rfl
theorem laidOut : laidOutB Tryz.prog = true := by decide +kernel
theorem own : ownKnob Tryz.prog.godebug = none := by kernel_rfl
theorem open_bytes {W : World} {base b0 : Nat} {sp : Nat → Bool} {held : Bool} {v : Value} {d : DataW H} {ps : List MemPlace}
  (hok : Value.okWide Tryz.prog W .any b0 31 v) (h : DataW.Trod enc Tryz.prog W base sp held 31 v d ps) : ∃ A c l, v = .slice A (List.length l) c ∧ BA W A l ∧ l.length ≤ c ∧ l.length ≤ maxLen := by
 obtain ⟨a1, len, cap, rfl⟩ := okWide_slice Tryz.underlying31 hok
 obtain ⟨fuel, hf⟩ := h
 rcases open_ints Tryz.underlying31 Tryz.underlying5 cellsB hf with ⟨hcs, hx⟩ | ⟨a, len', cap', zs, hcs, _, hl, hm, hz, hx, hcell, hwz⟩
 ·simp [Value.cells] at hcs
  obtain ⟨rfl, rfl, rfl⟩ := hcs
  exact ⟨none, 0, [], rfl, BA_nil _ _, Nat.le_refl _, Nat.zero_le _⟩
 ·simp [Value.cells] at hcs
  obtain ⟨rfl, rfl, rfl⟩ := hcs
  have hz2 : len ≤ zs.length := by rw [hz]; split <;> omega
  refine ⟨some a, cap, (zs.take len).map fun n => UInt8.ofNat n.toNat, ?_, fun j x hj => ?_, ?_, ?_⟩
  ·simp; omega
  ·have hjl : j < len := by
    have := (List.getElem?_eq_some_iff.1 hj).1
    simp at this
    omega
   have hcj := hcell j (by omega)
   obtain ⟨ab, ao, spot⟩ := a
   have hspot : spot = none := by simpa [Addr.add] using World.cell?_spot (hcell 0 (by omega))
   subst hspot
   refine ⟨ab, ao, rfl, ?_⟩
   rw [Addr.add_mid] at hcj
   rw [hcj]
   have hb := range_u8 hwz j
   rw [← List.getD_eq_getElem?_getD] at hb
   obtain ⟨z, hz0⟩ : ∃ z, z = zs.getD j 0 := ⟨_, rfl⟩
   rw [← hz0] at hb ⊢
   rw [List.getElem?_map, List.getElem?_take, if_pos hjl] at hj
   have e : zs[j]? = some (zs.getD j 0) := by simp [List.getD, List.getElem?_eq_getElem (show j < zs.length by omega)]
   rw [e, ← hz0] at hj
   have hx2 : x = UInt8.ofNat z.toNat := by simpa using hj.symm
   rw [hx2]
   congr 2
   simp only [UInt8.toNat_ofNat']
   omega
  ·simp; omega
  ·simp; omega
end
section
open Go.ChangeShapes Go.WideShapes Go.ChangeAt Go.RowKit Go.Joins Go.Deep
variable {H : Type} {enc : TypeId × Value → H}
end
section
open Go.ChangeShapes Go.WideShapes Go.ChangeAt Go.RowKit Go.Joins Go.Deep
variable {H : Type} {enc : TypeId × Value → H}
theorem cellsBs : Tryz.prog.cellsOf 31 = 1 := by kernel_rfl
theorem bytes_of_trod {W : World} {base : Nat} {sp : Nat → Bool} {held : Bool} {fuel : Nat} {cs : List Value} {y : DataW H × List MemPlace} (_hl : cs.length = 1)
  (hf : DataW.trod enc Tryz.prog W base sp held fuel 31 cs = some y) : ∃ A c l, cs = [.slice A (List.length l) c] ∧ BA W A l ∧ l.length ≤ c ∧ l.length ≤ maxLen := by
 rcases open_ints Tryz.underlying31 Tryz.underlying5 cellsB hf with ⟨hcs, hx⟩ | ⟨a, len, cap, zs, hcs, _, hl, hm, hz, hx, hcell, hwz⟩
 ·exact ⟨none, 0, [], hcs, BA_nil _ _, Nat.le_refl _, Nat.zero_le _⟩
 ·have hz2 : len ≤ zs.length := by rw [hz]; split <;> omega
  refine ⟨some a, cap, (zs.take len).map fun n => UInt8.ofNat n.toNat, ?_, fun j x hj => ?_, ?_, ?_⟩
  ·rw [hcs]; simp; omega
  ·have hjl : j < len := by
    have := (List.getElem?_eq_some_iff.1 hj).1
    simp at this
    omega
   have hcj := hcell j (by omega)
   obtain ⟨ab, ao, spot⟩ := a
   have hspot : spot = none := by simpa [Addr.add] using World.cell?_spot (hcell 0 (by omega))
   subst hspot
   refine ⟨ab, ao, rfl, ?_⟩
   rw [Addr.add_mid] at hcj
   rw [hcj]
   have hb := range_u8 hwz j
   rw [← List.getD_eq_getElem?_getD] at hb
   obtain ⟨z, hz0⟩ : ∃ z, z = zs.getD j 0 := ⟨_, rfl⟩
   rw [← hz0] at hb ⊢
   rw [List.getElem?_map, List.getElem?_take, if_pos hjl] at hj
   have e : zs[j]? = some (zs.getD j 0) := by simp [List.getD, List.getElem?_eq_getElem (show j < zs.length by omega)]
   rw [e, ← hz0] at hj
   have hx2 : x = UInt8.ofNat z.toNat := by simpa using hj.symm
   rw [hx2]
   congr 2
   simp only [UInt8.toNat_ofNat']
   omega
  ·simp; omega
  ·simp; omega
end
end Go.Proofs.YtkejfdgmdjfdoaaGreatDoor
