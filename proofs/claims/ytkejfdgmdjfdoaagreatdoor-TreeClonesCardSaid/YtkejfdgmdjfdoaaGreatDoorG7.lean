import Derived.Test.YtkejfdgmdjfdoaaGreatDoorG5
import Derived.Test.YtkejfdgmdjfdoaaGreatDoorM8
import Derived.Test.YtkejfdgmdjfdoaaGreatDoorFT
import Derived.LaidLaws
import Derived.LaidHandle
import Derived.Stop.LaidErr
namespace Go.Proofs.YtkejfdgmdjfdoaaGreatDoor
set_option linter.unusedSimpArgs false
set_option linter.unusedVariables false
set_option maxRecDepth 100000
section
open Go.ChangeShapes Go.WideShapes Go.ChangeAt Go.RowKit Go.Joins Go.Deep
variable {H : Type} {enc : TypeId × Value → H}
def initZ : List Int := init8.list.map fun x => (x.toNat : Int)
def constZ : List Int := kTab.map fun x => (x.toNat : Int)
theorem gInit : Tryz.prog.globalNamed "sparsetree/sha.initial" = some 1 := by kernel_rfl
theorem gConst : Tryz.prog.globalNamed "sparsetree/sha.constants" = some 2 := by kernel_rfl
theorem gInitType : (Tryz.prog.globals[1]?).map (·.type) = some 235 := by kernel_rfl
theorem gConstType : (Tryz.prog.globals[2]?).map (·.type) = some 271 := by kernel_rfl
theorem cellsI : Tryz.prog.cellsOf 235 = 8 := by kernel_rfl
theorem cellsK : Tryz.prog.cellsOf 271 = 64 := by kernel_rfl
theorem cellsW : Tryz.prog.cellsOf 234 = 1 := by kernel_rfl
theorem initData : (Rows.laid_sparsetree_sha_initial : DataW Unit) = Lib.tabData .u32 initZ := by kernel_rfl
theorem constData : (Rows.laid_sparsetree_sha_constants : DataW Unit) = Lib.tabData .u32 constZ := by kernel_rfl
theorem map_getD (l : List UInt32) (j : Nat) (h : j < l.length) : (l.map fun x => (x.toNat : Int)).getD j 0 = ((l.getD j 0).toNat : Int) := by
 simp [List.getD_eq_getElem?_getD, h]
theorem vars_of {W : World} (h : laidMet Tryz.prog [("sparsetree/sha.initial", Rows.laid_sparsetree_sha_initial), ("sparsetree/sha.constants", Rows.laid_sparsetree_sha_constants)] W) : Vars W := by
 have h2 := laidMet.tail h
 rw [initData] at h
 rw [constData] at h2
 have t0 := Lib.tabIs_of_head gInit gInitType Tryz.underlying235 Tryz.underlying234 cellsW cellsI h
 have t1 := Lib.tabIs_of_head gConst gConstType Tryz.underlying271 Tryz.underlying234 cellsW cellsK h2
 refine ⟨fun j hj => ?_, fun j v hv => ?_⟩
 ·have := Lib.TabIs.cell t1 gConst j hj
  rw [this, show constZ.getD j 0 = ((kTab.getD j 0).toNat : Int) from map_getD kTab j hj]
  rfl
 ·have hj : j < init8.list.length := by simpa using (List.getElem?_eq_some_iff.1 hv).1
  have := Lib.TabIs.cell t0 gInit j (by simpa [initZ] using hj)
  rw [Nat.zero_add, this]
  have e : init8.list[j]? = some (init8.list.getD j 0) := by simp [List.getD, List.getElem?_eq_getElem hj]
  rw [List.getElem?_map, e] at hv
  simp only [Option.map_some, Option.some.injEq] at hv
  rw [← hv]
  rw [show initZ.getD j 0 = ((init8.list.getD j 0).toNat : Int) from map_getD init8.list j hj]
  rfl
end
section
open Go.ChangeShapes Go.WideShapes Go.ChangeAt Go.RowKit Go.Joins Go.Deep
theorem gErr : Tryz.prog.globalNamed "errors.errorType" = some 0 := by kernel_rfl
theorem rtypeT : (Tryz.prog.cutTypes.find? (·.1 == "internal/reflectlite.rtype")).map (·.2) = some 222 := by kernel_rfl
theorem oneRow : ((List.range 328).filter fun t => Tryz.prog.rowNamed t [101, 114, 114, 111, 114]) = [44] := by kernel_rfl
theorem typesSize : Tryz.prog.types.size = 328 := by kernel_rfl
theorem errVar13 {W : World} {l : List (String × DataW Unit)} (h : handlesMet Tryz.prog l W) (hm : ("errors.errorType", Rows.laid_errors_errorType) ∈ l) : Ft.ErrVar W := by
 obtain ⟨name, u, ty, e1, e2, e3, e4, e5⟩ := h _ hm
 have en : name = [101, 114, 114, 111, 114] := (Option.some.inj e1).symm
 subst en
 obtain rfl := Option.some.inj (rtypeT.symm.trans e2)
 have hm : ty ∈ (List.range 328).filter fun t => Tryz.prog.rowNamed t [101, 114, 114, 111, 114] := List.mem_filter.2 ⟨List.mem_range.2 (by rw [← typesSize]; exact e3), e4⟩
 rw [oneRow] at hm
 obtain rfl := List.mem_singleton.1 hm
 have hh : typeHandle Tryz.prog 44 = .pointer (some ⟨6, 44, none⟩) := by kernel_rfl
 rw [hh] at e5
 have := World.var?_cell gErr e5 0
 unfold Ft.ErrVar
 rw [this]
 rfl
end
end Go.Proofs.YtkejfdgmdjfdoaaGreatDoor
