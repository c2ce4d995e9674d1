import Derived.Test.YtjgdindjimbfeaaGreatDoorM2
import Derived.Test.YtjgdindjimbfeaaGreatDoorM8
import Derived.Test.YtjgdindjimbfeaaGreatDoorAA
import Derived.Test.YtjgdindjimbfeaaGreatDoorTJ
import Derived.Test.YtjgdindjimbfeaaGreatDoorTM
import Derived.Test.YtjgdindjimbfeaaGreatDoorFT
import Derived.LaidLaws
import Derived.LaidHandle
import Derived.Stop.LaidErr
namespace Go.Proofs.YtjgdindjimbfeaaGreatDoor
set_option linter.unusedSimpArgs false
set_option linter.unusedVariables false
set_option maxRecDepth 100000
section
open Go.ChangeShapes Go.WideShapes Go.ChangeAt Go.RowKit Go.Joins Go.Deep
variable {H : Type} {enc : TypeId × Value → H}
def initZ : List Int := init8.list.map fun x => (x.toNat : Int)
def constZ : List Int := kTab.map fun x => (x.toNat : Int)
theorem gInit : Tryz.prog.globalNamed "sparsetree/sha.initial" = some 1 := by kernel_rfl
theorem gConst : Tryz.prog.globalNamed "sparsetree/sha.constants" = some 2 := by kernel_rfl
theorem gInitType : (Tryz.prog.globals[1]?).map (·.type) = some 204 := by kernel_rfl
theorem gConstType : (Tryz.prog.globals[2]?).map (·.type) = some 243 := by kernel_rfl
theorem cellsI : Tryz.prog.cellsOf 204 = 8 := by kernel_rfl
theorem cellsK : Tryz.prog.cellsOf 243 = 64 := by kernel_rfl
theorem cellsW : Tryz.prog.cellsOf 203 = 1 := by kernel_rfl
theorem initData : (Rows.laid_sparsetree_sha_initial : DataW Unit) = Lib.tabData .u32 initZ := by kernel_rfl
theorem constData : (Rows.laid_sparsetree_sha_constants : DataW Unit) = Lib.tabData .u32 constZ := by kernel_rfl
theorem map_getD (l : List UInt32) (j : Nat) (h : j < l.length) : (l.map fun x => (x.toNat : Int)).getD j 0 = ((l.getD j 0).toNat : Int) := by
 simp [List.getD_eq_getElem?_getD, h]
theorem vars_of {W : World} (h : laidMet Tryz.prog [("sparsetree/sha.initial", Rows.laid_sparsetree_sha_initial), ("sparsetree/sha.constants", Rows.laid_sparsetree_sha_constants)] W) : Vars W := by
 have h2 := laidMet.tail h
 rw [initData] at h
 rw [constData] at h2
 have t0 := Lib.tabIs_of_head gInit gInitType Tryz.underlying204 Tryz.underlying203 cellsW cellsI h
 have t1 := Lib.tabIs_of_head gConst gConstType Tryz.underlying243 Tryz.underlying203 cellsW cellsK h2
 refine ⟨fun j hj => ?_, fun j v hv => ?_⟩
 ·have := Lib.TabIs.cell t1 gConst j hj
  rw [this, show constZ.getD j 0 = ((kTab.getD j 0).toNat : Int) from map_getD kTab j hj]
  rfl
 ·have hj : j < init8.list.length := by simpa using (List.getElem?_eq_some_iff.1 hv).1
  have := Lib.TabIs.cell t0 gInit j (by simpa [initZ] using hj)
  rw [Nat.zero_add, this]
  have e : init8.list[j]? = some (init8.list.getD j 0) := by simp [List.getD, List.getElem?_eq_getElem hj]
  rw [List.getElem?_map, e] at hv
  simp only [Option.map_some, Option.some.injEq] at hv
  rw [← hv]
  rw [show initZ.getD j 0 = ((init8.list.getD j 0).toNat : Int) from map_getD init8.list j hj]
  rfl
end
section
open Go.ChangeShapes Go.WideShapes Go.ChangeAt Go.RowKit Go.Joins Go.Deep
variable {H : Type} {enc : TypeId × Value → H}
end
section
open Go.ChangeShapes Go.WideShapes Go.ChangeAt Go.RowKit Go.Joins Go.Deep
variable {H : Type} {enc : TypeId × Value → H}
theorem cellsB18 : Tryz.prog.cellsOf 4 = 1 := by kernel_rfl
theorem cellsCl18 : Tryz.prog.cellsOf 24 = 3 := by kernel_rfl
theorem claim_of_trod {W : World} {base : Nat} {sp : Nat → Bool} {held : Bool} {fuel : Nat} {cs : List Value} {y : DataW H × List MemPlace} (hl : cs.length = 3)
  (hf : DataW.trod enc Tryz.prog W base sp held fuel 24 cs = some y) : ∃ (x : Cl) (A B : Option Addr) (ca cb : Nat), ClOk W x A ca B cb ∧ cs = (clC x A ca B cb).toList := by
 obtain ⟨y0, y1, y2, n, _, _, h0, h1, h2⟩ := trod_struct3 Tryz.underlying24 hf
 have h0' : DataW.trod enc Tryz.prog W base sp held n 22 ((cs.drop 0).take (Tryz.prog.cellsOf 22)) = some y0 := h0
 have h1' : DataW.trod enc Tryz.prog W base sp held n 22 ((cs.drop 1).take (Tryz.prog.cellsOf 22)) = some y1 := h1
 have h2' : DataW.trod enc Tryz.prog W base sp held n 4 ((cs.drop 2).take (Tryz.prog.cellsOf 4)) = some y2 := h2
 rw [cellsBs] at h0' h1'
 rw [cellsB18] at h2'
 obtain ⟨A, c, k, e0, hA, hc, _⟩ := bytes_of_trod (by simp [hl]) h0'
 obtain ⟨B, e, v, e1, hB, he, _⟩ := bytes_of_trod (by simp [hl]) h1'
 obtain ⟨b, e2, _⟩ := DataW.trod_bool Tryz.underlying4 h2'
 refine ⟨⟨k, v, b⟩, A, B, c, e, ⟨hA, hc, hB, he⟩, ?_⟩
 obtain ⟨x0, x1, x2, rfl⟩ : ∃ x0 x1 x2, cs = [x0, x1, x2] := by
  match cs, hl with
  | [a, b, c], _ => exact ⟨a, b, c, rfl⟩
 simp at e0 e1 e2
 rw [e0, e1, e2]
 rfl
theorem open_claim {W : World} {base b0 : Nat} {sp : Nat → Bool} {held : Bool} {v : Value} {d : DataW H} {ps : List MemPlace}
  (hok : Value.okWide Tryz.prog W .any b0 24 v) (h : DataW.Trod enc Tryz.prog W base sp held 24 v d ps) : ∃ (x : Cl) (A B : Option Addr) (ca cb : Nat), v = .agg (clC x A ca B cb) ∧ ClOk W x A ca B cb := by
 obtain ⟨cs, rfl, hsz, _⟩ : ∃ cs, v = .agg cs ∧ cs.size = Tryz.prog.cellsOf 24 ∧ Row.okWide Tryz.prog W .any b0 24 cs := by
  simpa [Value.okWide, Tryz.underlying24] using hok
 rw [cellsCl18] at hsz
 obtain ⟨fuel, hf⟩ := h
 obtain ⟨x, A, B, ca, cb, hx, h1⟩ := claim_of_trod (by rw [show (Value.agg cs).cells.toList = cs.toList from rfl, Array.length_toList, hsz]) hf
 refine ⟨x, A, B, ca, cb, ?_, hx⟩
 have h3 : cs.toList = (clC x A ca B cb).toList := h1
 rw [Array.toList_inj.1 h3]
end
section
open Go.ChangeShapes Go.WideShapes Go.ChangeAt Go.RowKit Go.Joins Go.Deep
theorem gErr : Tryz.prog.globalNamed "errors.errorType" = some 0 := by kernel_rfl
theorem rtypeT : (Tryz.prog.cutTypes.find? (·.1 == "internal/reflectlite.rtype")).map (·.2) = some 186 := by kernel_rfl
theorem oneRow : ((List.range 283).filter fun t => Tryz.prog.rowNamed t [101, 114, 114, 111, 114]) = [38] := by kernel_rfl
theorem typesSize : Tryz.prog.types.size = 283 := by kernel_rfl
theorem errVar13 {W : World} {l : List (String × DataW Unit)} (h : handlesMet Tryz.prog l W) (hm : ("errors.errorType", Rows.laid_errors_errorType) ∈ l) : Ft.ErrVar W := by
 obtain ⟨name, u, ty, e1, e2, e3, e4, e5⟩ := h _ hm
 have en : name = [101, 114, 114, 111, 114] := (Option.some.inj e1).symm
 subst en
 obtain rfl := Option.some.inj (rtypeT.symm.trans e2)
 have hm : ty ∈ (List.range 283).filter fun t => Tryz.prog.rowNamed t [101, 114, 114, 111, 114] := List.mem_filter.2 ⟨List.mem_range.2 (by rw [← typesSize]; exact e3), e4⟩
 rw [oneRow] at hm
 obtain rfl := List.mem_singleton.1 hm
 have hh : typeHandle Tryz.prog 38 = .pointer (some ⟨3, 38, none⟩) := by kernel_rfl
 rw [hh] at e5
 have := World.var?_cell gErr e5 0
 unfold Ft.ErrVar
 rw [this]
 rfl
end
end Go.Proofs.YtjgdindjimbfeaaGreatDoor
