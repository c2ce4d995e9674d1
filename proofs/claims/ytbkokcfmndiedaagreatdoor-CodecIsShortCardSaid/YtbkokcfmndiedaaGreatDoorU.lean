/- What the listed variables give. -/
import Derived.Test.YtbkokcfmndiedaaGreatDoorM2
import Derived.Test.YtbkokcfmndiedaaGreatDoorM8
namespace Go.Proofs.YtbkokcfmndiedaaGreatDoor
open Go.ChangeShapes Go.WideShapes Go.ChangeAt Go.RowKit Go.Joins Go.Deep
variable {H : Type} {enc : TypeId × Value → H}

/-! ### What the listed variables give -/
def initZ : List Int := init8.list.map fun x => (x.toNat : Int)
def constZ : List Int := kTab.map fun x => (x.toNat : Int)
set_option maxRecDepth 100000 in
theorem gInit : Tryz.prog.globalNamed "sparsetree/sha.initial" = some 0 := by kernel_rfl
set_option maxRecDepth 100000 in
theorem gConst : Tryz.prog.globalNamed "sparsetree/sha.constants" = some 1 := by kernel_rfl
set_option maxRecDepth 100000 in
theorem gInitType : (Tryz.prog.globals[0]?).map (·.type) = some 132 := by kernel_rfl
set_option maxRecDepth 100000 in
theorem gConstType : (Tryz.prog.globals[1]?).map (·.type) = some 152 := by kernel_rfl
set_option maxRecDepth 100000 in
theorem cellsI : Tryz.prog.cellsOf 132 = 8 := by kernel_rfl
set_option maxRecDepth 100000 in
theorem cellsK : Tryz.prog.cellsOf 152 = 64 := by kernel_rfl
set_option maxRecDepth 100000 in
theorem cellsW : Tryz.prog.cellsOf 131 = 1 := by kernel_rfl
set_option maxRecDepth 100000 in
theorem initData : (Rows.laid_sparsetree_sha_initial : DataW Unit) = Lib.tabData .u32 initZ := by kernel_rfl
set_option maxRecDepth 100000 in
theorem constData : (Rows.laid_sparsetree_sha_constants : DataW Unit) = Lib.tabData .u32 constZ := by kernel_rfl
set_option maxRecDepth 100000 in
theorem map_getD (l : List UInt32) (j : Nat) (h : j < l.length) : (l.map fun x => (x.toNat : Int)).getD j 0 = ((l.getD j 0).toNat : Int) := by
  simp [List.getD_eq_getElem?_getD, h]
set_option maxRecDepth 100000 in
theorem vars_of {W : World} (h : laidMet Tryz.prog [("sparsetree/sha.initial", Rows.laid_sparsetree_sha_initial), ("sparsetree/sha.constants", Rows.laid_sparsetree_sha_constants)] W) : Vars W := by
  have h2 := laidMet.tail h
  rw [initData] at h
  rw [constData] at h2
  have t0 := Lib.tabIs_of_head gInit gInitType Tryz.underlying132 Tryz.underlying131 cellsW cellsI h
  have t1 := Lib.tabIs_of_head gConst gConstType Tryz.underlying152 Tryz.underlying131 cellsW cellsK h2
  refine ⟨fun j hj => ?_, fun j v hv => ?_⟩
  · have := Lib.TabIs.cell t1 gConst j hj
    rw [this, show constZ.getD j 0 = ((kTab.getD j 0).toNat : Int) from map_getD kTab j hj]
    rfl
  · have hj : j < init8.list.length := by simpa using (List.getElem?_eq_some_iff.1 hv).1
    have := Lib.TabIs.cell t0 gInit j (by simpa [initZ] using hj)
    rw [Nat.zero_add, this]
    have e : init8.list[j]? = some (init8.list.getD j 0) := by simp [List.getD, List.getElem?_eq_getElem hj]
    rw [List.getElem?_map, e] at hv
    simp only [Option.map_some, Option.some.injEq] at hv
    rw [← hv]
    rw [show initZ.getD j 0 = ((init8.list.getD j 0).toNat : Int) from map_getD init8.list j hj]
    rfl
end Go.Proofs.YtbkokcfmndiedaaGreatDoor
