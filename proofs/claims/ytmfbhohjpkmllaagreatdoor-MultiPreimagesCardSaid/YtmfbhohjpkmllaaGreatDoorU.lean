import Derived.Test.YtmfbhohjpkmllaaGreatDoorM2
import Derived.Test.YtmfbhohjpkmllaaGreatDoorM8
namespace Go.Proofs.YtmfbhohjpkmllaaGreatDoor
set_option linter.unusedSimpArgs false
set_option linter.unusedVariables false
set_option maxRecDepth 100000
open Go.ChangeShapes Go.WideShapes Go.ChangeAt Go.RowKit Go.Joins Go.Deep
variable {H : Type} {enc : TypeId × Value → H}
def initZ : List Int := init8.list.map fun x => (x.toNat : Int)
def constZ : List Int := kTab.map fun x => (x.toNat : Int)
theorem gInit : Tryz.prog.globalNamed "sparsetree/sha.initial" = some 0 := by kernel_rfl
theorem gConst : Tryz.prog.globalNamed "sparsetree/sha.constants" = some 1 := by kernel_rfl
theorem gInitType : (Tryz.prog.globals[0]?).map (·.type) = some 157 := by kernel_rfl
theorem gConstType : (Tryz.prog.globals[1]?).map (·.type) = some 188 := by kernel_rfl
theorem cellsI : Tryz.prog.cellsOf 157 = 8 := by kernel_rfl
theorem cellsK : Tryz.prog.cellsOf 188 = 64 := by kernel_rfl
theorem cellsW : Tryz.prog.cellsOf 156 = 1 := by kernel_rfl
theorem initData : (Rows.laid_sparsetree_sha_initial : DataW Unit) = Lib.tabData .u32 initZ := by kernel_rfl
theorem constData : (Rows.laid_sparsetree_sha_constants : DataW Unit) = Lib.tabData .u32 constZ := by kernel_rfl
theorem map_getD (l : List UInt32) (j : Nat) (h : j < l.length) : (l.map fun x => (x.toNat : Int)).getD j 0 = ((l.getD j 0).toNat : Int) := by
 simp [List.getD_eq_getElem?_getD, h]
theorem vars_of {W : World} (h : laidMet Tryz.prog [("sparsetree/sha.initial", Rows.laid_sparsetree_sha_initial), ("sparsetree/sha.constants", Rows.laid_sparsetree_sha_constants)] W) : Vars W := by
 have h2 := laidMet.tail h
 rw [initData] at h
 rw [constData] at h2
 have t0 := Lib.tabIs_of_head gInit gInitType Tryz.underlying157 Tryz.underlying156 cellsW cellsI h
 have t1 := Lib.tabIs_of_head gConst gConstType Tryz.underlying188 Tryz.underlying156 cellsW cellsK h2
 refine ⟨fun j hj => ?_, fun j v hv => ?_⟩
 ·have := Lib.TabIs.cell t1 gConst j hj
  rw [this, show constZ.getD j 0 = ((kTab.getD j 0).toNat : Int) from map_getD kTab j hj]
  rfl
 ·have hj : j < init8.list.length := by simpa using (List.getElem?_eq_some_iff.1 hv).1
  have := Lib.TabIs.cell t0 gInit j (by simpa [initZ] using hj)
  rw [Nat.zero_add, this]
  have e : init8.list[j]? = some (init8.list.getD j 0) := by simp [List.getD, List.getElem?_eq_getElem hj]
  rw [List.getElem?_map, e] at hv
  simp only [Option.map_some, Option.some.injEq] at hv
  rw [← hv]
  rw [show initZ.getD j 0 = ((init8.list.getD j 0).toNat : Int) from map_getD init8.list j hj]
  rfl
end Go.Proofs.YtmfbhohjpkmllaaGreatDoor
