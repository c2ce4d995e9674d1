/- Arguments opened; what the listed variables give. -/
import Derived.Test.YtaggbmlkfdfjpaaDoorMa
import Derived.ProofKit
import Derived.OpenShut
import Derived.Deep.Slices
import Derived.Deep.Fields
import Derived.Deep.MidRow
import Derived.Carry
import Derived.ChangeSlices
import Derived.ChangeSame
import Derived.ChangeVars
import Derived.ChangeMaps5
import Derived.JoinedOf
import Derived.LaidLaws
import Derived.LaidHandle
import Derived.Lib.SmallJoins
import Derived.Lib.LaidTab
import Derived.Stop.Joined
import Derived.Stop.LaidErr
namespace Go.Proofs.YtaggbmlkfdfjpaaDoor
open Go.ChangeShapes Go.WideShapes Go.ChangeAt Go.RowKit Go.Joins Go.Deep
variable {H : Type} {enc : TypeId × Value → H}

theorem cellsB : Tryd.prog.cellsOf 5 = 1 := by kernel_rfl
theorem laidOut : laidOutB Tryd.prog = true := by kernel_rfl
theorem own : ownKnob Tryd.prog.godebug = none := by kernel_rfl
theorem open_bytes {W : World} {base b0 : Nat} {sp : Nat → Bool} {held : Bool} {v : Value} {d : DataW H} {ps : List MemPlace}
    (hok : Value.okWide Tryd.prog W .any b0 34 v) (h : DataW.Trod enc Tryd.prog W base sp held 34 v d ps) : ∃ A c l, v = .slice A (List.length l) c ∧ BA W A l ∧ l.length ≤ c ∧ l.length ≤ maxLen := by
  obtain ⟨a1, len, cap, rfl⟩ := okWide_slice Tryd.underlying34 hok
  obtain ⟨fuel, hf⟩ := h
  rcases open_ints Tryd.underlying34 Tryd.underlying5 cellsB hf with ⟨hcs, hx⟩ | ⟨a, len', cap', zs, hcs, _, hl, hm, hz, hx, hcell, hwz⟩
  · simp [Value.cells] at hcs
    obtain ⟨rfl, rfl, rfl⟩ := hcs
    exact ⟨none, 0, [], rfl, BA_nil _ _, Nat.le_refl _, Nat.zero_le _⟩
  · simp [Value.cells] at hcs
    obtain ⟨rfl, rfl, rfl⟩ := hcs
    have hz2 : len ≤ zs.length := by rw [hz]; split <;> omega
    refine ⟨some a, cap, (zs.take len).map fun n => UInt8.ofNat n.toNat, ?_, fun j x hj => ?_, ?_, ?_⟩
    · simp; omega
    · have hjl : j < len := by
        have := (List.getElem?_eq_some_iff.1 hj).1
        simp at this
        omega
      have hcj := hcell j (by omega)
      obtain ⟨ab, ao, spot⟩ := a
      have hspot : spot = none := by simpa [Addr.add] using World.cell?_spot (hcell 0 (by omega))
      subst hspot
      refine ⟨ab, ao, rfl, ?_⟩
      rw [Addr.add_mid] at hcj
      rw [hcj]
      have hb := range_u8 hwz j
      rw [← List.getD_eq_getElem?_getD] at hb
      obtain ⟨z, hz0⟩ : ∃ z, z = zs.getD j 0 := ⟨_, rfl⟩
      rw [← hz0] at hb ⊢
      rw [List.getElem?_map, List.getElem?_take, if_pos hjl] at hj
      have e : zs[j]? = some (zs.getD j 0) := by simp [List.getD, List.getElem?_eq_getElem (show j < zs.length by omega)]
      rw [e, ← hz0] at hj
      have hx2 : x = UInt8.ofNat z.toNat := by simpa using hj.symm
      rw [hx2]
      congr 2
      simp only [UInt8.toNat_ofNat']
      omega
    · simp; omega
    · simp; omega

/-! ### What the listed variables give -/
def initZ : List Int := init8.list.map fun x => (x.toNat : Int)
def constZ : List Int := kTab.map fun x => (x.toNat : Int)
theorem gInit : Tryd.prog.globalNamed "sparsetree/sha.initial" = some 0 := by kernel_rfl
theorem gConst : Tryd.prog.globalNamed "sparsetree/sha.constants" = some 1 := by kernel_rfl
theorem gInitType : (Tryd.prog.globals[0]?).map (·.type) = some 50 := by kernel_rfl
theorem gConstType : (Tryd.prog.globals[1]?).map (·.type) = some 71 := by kernel_rfl
theorem cellsI : Tryd.prog.cellsOf 50 = 8 := by kernel_rfl
theorem cellsK : Tryd.prog.cellsOf 71 = 64 := by kernel_rfl
theorem cellsW : Tryd.prog.cellsOf 49 = 1 := by kernel_rfl
theorem initData : (Rows.laid_sparsetree_sha_initial : DataW Unit) = Lib.tabData .u32 initZ := by kernel_rfl
theorem constData : (Rows.laid_sparsetree_sha_constants : DataW Unit) = Lib.tabData .u32 constZ := by kernel_rfl
theorem map_getD (l : List UInt32) (j : Nat) (h : j < l.length) : (l.map fun x => (x.toNat : Int)).getD j 0 = ((l.getD j 0).toNat : Int) := by
  simp [List.getD_eq_getElem?_getD, h]
theorem vars_of {W : World} (h : laidMet Tryd.prog [("sparsetree/sha.initial", Rows.laid_sparsetree_sha_initial), ("sparsetree/sha.constants", Rows.laid_sparsetree_sha_constants)] W) : Vars W := by
  have h2 := laidMet.tail h
  rw [initData] at h
  rw [constData] at h2
  have t0 := Lib.tabIs_of_head gInit gInitType Tryd.underlying50 Tryd.underlying49 cellsW cellsI h
  have t1 := Lib.tabIs_of_head gConst gConstType Tryd.underlying71 Tryd.underlying49 cellsW cellsK h2
  refine ⟨fun j hj => ?_, fun j v hv => ?_⟩
  · have := Lib.TabIs.cell t1 gConst j hj
    rw [this, show constZ.getD j 0 = ((kTab.getD j 0).toNat : Int) from map_getD kTab j hj]
    rfl
  · have hj : j < init8.list.length := by simpa using (List.getElem?_eq_some_iff.1 hv).1
    have := Lib.TabIs.cell t0 gInit j (by simpa [initZ] using hj)
    rw [Nat.zero_add, this]
    have e : init8.list[j]? = some (init8.list.getD j 0) := by simp [List.getD, List.getElem?_eq_getElem hj]
    rw [List.getElem?_map, e] at hv
    simp only [Option.map_some, Option.some.injEq] at hv
    rw [← hv]
    rw [show initZ.getD j 0 = ((init8.list.getD j 0).toNat : Int) from map_getD init8.list j hj]
    rfl
end Go.Proofs.YtaggbmlkfdfjpaaDoor
