import Derived.Test.YtjgdindjimbfeaaGreatDoorM2
import Derived.Test.YtjgdindjimbfeaaGreatDoorM8
import Derived.Test.YtjgdindjimbfeaaGreatDoorAA
import Derived.Test.YtjgdindjimbfeaaGreatDoorTJ
import Derived.Test.YtjgdindjimbfeaaGreatDoorTM
import Derived.Test.YtjgdindjimbfeaaGreatDoorFT
import Derived.LaidLaws
import Derived.LaidHandle
import Derived.Stop.LaidErr
namespace Go.Proofs.YtjgdindjimbfeaaGreatDoor
set_option linter.unusedSimpArgs false
set_option linter.unusedVariables false
set_option maxRecDepth 100000
section
open Go.ChangeShapes Go.WideShapes Go.ChangeAt Go.RowKit Go.Joins Go.Deep
variable {H : Type} {enc : TypeId × Value → H}
def initZ : List Int := init8.list.map fun x => (x.toNat : Int)
def constZ : List Int := kTab.map fun x => (x.toNat : Int)
theorem gInit : Tryz.prog.globalNamed "sparsetree/sha.initial" = some 1 := by kernel_rfl
theorem gConst : Tryz.prog.globalNamed "sparsetree/sha.constants" = some 2 := by kernel_rfl
theorem gInitType : (Tryz.prog.globals[1]?).map (·.type) = some 204 := by kernel_rfl
theorem gConstType : (Tryz.prog.globals[2]?).map (·.type) = some 243 := by kernel_rfl
theorem cellsI : Tryz.prog.cellsOf 204 = 8 := by kernel_rfl
theorem cellsK : Tryz.prog.cellsOf 243 = 64 := by kernel_rfl
theorem cellsW : Tryz.prog.cellsOf 203 = 1 := by kernel_rfl
theorem initData : (Rows.laid_sparsetree_sha_initial : DataW Unit) = Lib.tabData .u32 initZ := by kernel_rfl
theorem constData : (Rows.laid_sparsetree_sha_constants : DataW Unit) = Lib.tabData .u32 constZ := by kernel_rfl
theorem map_getD (l : List UInt32) (j : Nat) (h : j < l.length) : (l.map fun x => (x.toNat : Int)).getD j 0 = ((l.getD j 0).toNat : Int) := by
 simp [List.getD_eq_getElem?_getD, h]
theorem vars_of {W : World} (h : laidMet Tryz.prog [("sparsetree/sha.initial", Rows.laid_sparsetree_sha_initial), ("sparsetree/sha.constants", Rows.laid_sparsetree_sha_constants)] W) : Vars W := by
 have h2 := laidMet.tail h
 rw [initData] at h
 rw [constData] at h2
 have t0 := Lib.tabIs_of_head gInit gInitType Tryz.underlying204 Tryz.underlying203 cellsW cellsI h
 have t1 := Lib.tabIs_of_head gConst gConstType Tryz.underlying243 Tryz.underlying203 cellsW cellsK h2
 refine ⟨fun j hj => ?_, fun j v hv => ?_⟩
 ·have := Lib.TabIs.cell t1 gConst j hj
  rw [this, show constZ.getD j 0 = ((kTab.getD j 0).toNat : Int) from map_getD kTab j hj]
  rfl
 ·have hj : j < init8.list.length := by simpa using (List.getElem?_eq_some_iff.1 hv).1
  have := Lib.TabIs.cell t0 gInit j (by simpa [initZ] using hj)
  rw [Nat.zero_add, this]
  have e : init8.list[j]? = some (init8.list.getD j 0) := by simp [List.getD, List.getElem?_eq_getElem hj]
  rw [List.getElem?_map, e] at hv
  simp only [Option.map_some, Option.some.injEq] at hv
  rw [← hv]
  rw [show initZ.getD j 0 = ((init8.list.getD j 0).toNat : Int) from map_getD init8.list j hj]
  rfl
end
section
open Go.ChangeShapes Go.WideShapes Go.ChangeAt Go.RowKit Go.Joins Go.Deep
variable {H : Type} {enc : TypeId × Value → H}
theorem cellsPf : Tryz.prog.cellsOf 53 = 99 := by kernel_rfl
theorem cellsDs : Tryz.prog.cellsOf 51 = 1 := by kernel_rfl
theorem cellsInt15 : Tryz.prog.cellsOf 3 = 1 := by kernel_rfl
theorem cells26 : Tryz.prog.cellsOf 46 = 32 := by kernel_rfl
theorem digs_of_trod {W : World} {base : Nat} {sp : Nat → Bool} {held : Bool} {fuel : Nat} {cs : List Value} {y : DataW H × List MemPlace}
  (hf : DataW.trod enc Tryz.prog W base sp held fuel 51 cs = some y) : ∃ A c ds, cs = [.slice A (List.length ds) c] ∧ DS W A ds ∧ ds.length ≤ c ∧ ds.length ≤ maxLen := by
 rcases Go.Deep.open_slice Tryz.underlying51 hf with ⟨hcs, hx⟩ | ⟨a, len, cap, m, n, D, Pl, hcs, _, hl, hm, hmm, hx, hat⟩
 ·exact ⟨none, 0, [], hcs, DS.nil _ _, Nat.le_refl _, Nat.zero_le _⟩
 ·rw [cellsD] at hat
  have hlm : len ≤ m := by rw [hmm]; split <;> omega
  have each : ∀ j, j < len → ∃ s : List UInt8, s.length = 32 ∧ ∀ i v, (s.map bv)[i]? = some v → W.cell? ((a.add (j * 32)).add i) = some v := fun j hj => by
   obtain ⟨cs', h1, h2⟩ := hat j (by omega)
   obtain ⟨_, h3, h4⟩ := World.cells?_some h1
   obtain ⟨s, hs, rfl⟩ := arr_of_trod Tryz.underlying47 h3 h2
   refine ⟨s, hs, fun i v hv => ?_⟩
   have hi : i < (s.map bv).length := (List.getElem?_eq_some_iff.1 hv).1
   rw [h4 i (by omega)]
   exact hv
  obtain ⟨f, hf2⟩ : ∃ f : Nat → List UInt8, ∀ j, j < len → (f j).length = 32 ∧ ∀ i v, ((f j).map bv)[i]? = some v → W.cell? ((a.add (j * 32)).add i) = some v := choose_lt each
  refine ⟨some a, cap, (List.range len).map f, by rw [hcs]; simp, fun j x hj => ?_, by simp; omega, by simp; omega⟩
  have hjl : j < len := by
   have := (List.getElem?_eq_some_iff.1 hj).1
   simpa using this
  rw [List.getElem?_map, List.getElem?_range hjl, Option.map_some] at hj
  have hx2 : f j = x := by simpa using hj
  subst hx2
  obtain ⟨h1, h2⟩ := hf2 j hjl
  have h0k : ∃ v, ((f 0).map bv)[0]? = some v := ⟨_, List.getElem?_eq_getElem (by rw [List.length_map, (hf2 0 (by omega)).1]; decide)⟩
  obtain ⟨v0, hv0⟩ := h0k
  have hz := (hf2 0 (by omega)).2 0 v0 hv0
  obtain ⟨ab, ao, spot⟩ := a
  have hspot : spot = none := by simpa [Addr.add] using World.cell?_spot hz
  subst hspot
  refine ⟨h1, ab, ao, rfl, fun i v hv => ?_⟩
  have := h2 i v hv
  rw [Addr.add_mid, Addr.add_mid] at this
  exact this
theorem int_of_trod {W : World} {base : Nat} {sp : Nat → Bool} {held : Bool} {fuel : Nat} {cs : List Value} {y : DataW H × List MemPlace}
  (hf : DataW.trod enc Tryz.prog W base sp held fuel 3 cs = some y) : ∃ z : Int, cs = [.int .i64 z] := by
 obtain ⟨z, e, _, _⟩ := DataW.trod_int Tryz.underlying3 hf
 exact ⟨z, e⟩
theorem pf_of_trod {W : World} {base : Nat} {sp : Nat → Bool} {held : Bool} {fuel : Nat} {cs : List Value} {y : DataW H × List MemPlace} (hl : cs.length = 99)
  (hf : DataW.trod enc Tryz.prog W base sp held fuel 53 cs = some y) :
  ∃ (p : Pf) (A : Option Addr) (c : Nat), p.Ok ∧ DS W A p.sib ∧ p.sib.length ≤ c ∧ p.sib.length ≤ maxLen ∧ cs = pfL p (.slice A p.sib.length c) := by
 obtain ⟨xs, n, _, rfl, _, hlen, hat⟩ := DataW.trod_struct Tryz.underlying53 hf
 match xs, hlen with
 | [y0, y1, y2, y3, y4], _ =>
  have h0 : DataW.trod enc Tryz.prog W base sp held n 3 ((cs.drop 0).take (Tryz.prog.cellsOf 3)) = some y0 := by simpa using hat 0 _ rfl
  have h1 : DataW.trod enc Tryz.prog W base sp held n 3 ((cs.drop 1).take (Tryz.prog.cellsOf 3)) = some y1 := by simpa using hat 1 _ rfl
  have h2 : DataW.trod enc Tryz.prog W base sp held n 50 ((cs.drop 2).take (Tryz.prog.cellsOf 50)) = some y2 := by simpa using hat 2 _ rfl
  have h3 : DataW.trod enc Tryz.prog W base sp held n 46 ((cs.drop 66).take (Tryz.prog.cellsOf 46)) = some y3 := by simpa using hat 3 _ rfl
  have h4 : DataW.trod enc Tryz.prog W base sp held n 51 ((cs.drop 98).take (Tryz.prog.cellsOf 51)) = some y4 := by simpa using hat 4 _ rfl
  rw [cellsInt15] at h0 h1
  rw [cellsLeaf] at h2
  rw [cells26] at h3
  rw [cellsDs] at h4
  obtain ⟨z0, e0⟩ := int_of_trod h0
  obtain ⟨z1, e1⟩ := int_of_trod h1
  obtain ⟨k, g, hk, hg, e2⟩ := leaf_of_trod (by simp [hl]) h2
  obtain ⟨bm, hb, e3⟩ := arr_of_trod Tryz.underlying46 (by simp [hl]) h3
  obtain ⟨A, c, ds, e4, hd, hc, hm⟩ := digs_of_trod h4
  refine ⟨⟨z0, z1, k ++ g, bm, ds⟩, A, c, ⟨by simp [hk, hg], hb, fun s hs => ?_⟩, hd, hc, hm, ?_⟩
  ·obtain ⟨i, hi⟩ := List.getElem?_of_mem hs
   exact (hd i s hi).1
  ·show cs = .int .i64 z0 :: .int .i64 z1 :: ((k ++ g).map bv ++ (bm.map bv ++ [.slice A ds.length c]))
   have s0 : cs = (cs.drop 0).take 1 ++ cs.drop 1 := (List.take_append_drop 1 cs).symm
   have s1 : cs.drop 1 = (cs.drop 1).take 1 ++ cs.drop 2 := by rw [← List.drop_drop (i := 1) (j := 1)]; exact (List.take_append_drop 1 (cs.drop 1)).symm
   have s2 : cs.drop 2 = (cs.drop 2).take 64 ++ cs.drop 66 := by
    have := (List.take_append_drop 64 (cs.drop 2)).symm
    rwa [List.drop_drop] at this
   have s3 : cs.drop 66 = (cs.drop 66).take 32 ++ cs.drop 98 := by
    have := (List.take_append_drop 32 (cs.drop 66)).symm
    rwa [List.drop_drop] at this
   have s4 : cs.drop 98 = (cs.drop 98).take 1 := by rw [List.take_of_length_le (by simp [hl])]
   rw [s0, s1, s2, s3, s4, e0, e1, e2, e3, e4]; rfl
end
section
open Go.ChangeShapes Go.WideShapes Go.ChangeAt Go.RowKit Go.Joins Go.Deep
variable {H : Type} {enc : TypeId × Value → H}
theorem cellsB18 : Tryz.prog.cellsOf 4 = 1 := by kernel_rfl
theorem cellsCl18 : Tryz.prog.cellsOf 24 = 3 := by kernel_rfl
theorem claim_of_trod {W : World} {base : Nat} {sp : Nat → Bool} {held : Bool} {fuel : Nat} {cs : List Value} {y : DataW H × List MemPlace} (hl : cs.length = 3)
  (hf : DataW.trod enc Tryz.prog W base sp held fuel 24 cs = some y) : ∃ (x : Cl) (A B : Option Addr) (ca cb : Nat), ClOk W x A ca B cb ∧ cs = (clC x A ca B cb).toList := by
 obtain ⟨y0, y1, y2, n, _, _, h0, h1, h2⟩ := trod_struct3 Tryz.underlying24 hf
 have h0' : DataW.trod enc Tryz.prog W base sp held n 22 ((cs.drop 0).take (Tryz.prog.cellsOf 22)) = some y0 := h0
 have h1' : DataW.trod enc Tryz.prog W base sp held n 22 ((cs.drop 1).take (Tryz.prog.cellsOf 22)) = some y1 := h1
 have h2' : DataW.trod enc Tryz.prog W base sp held n 4 ((cs.drop 2).take (Tryz.prog.cellsOf 4)) = some y2 := h2
 rw [cellsBs] at h0' h1'
 rw [cellsB18] at h2'
 obtain ⟨A, c, k, e0, hA, hc, _⟩ := bytes_of_trod (by simp [hl]) h0'
 obtain ⟨B, e, v, e1, hB, he, _⟩ := bytes_of_trod (by simp [hl]) h1'
 obtain ⟨b, e2, _⟩ := DataW.trod_bool Tryz.underlying4 h2'
 refine ⟨⟨k, v, b⟩, A, B, c, e, ⟨hA, hc, hB, he⟩, ?_⟩
 obtain ⟨x0, x1, x2, rfl⟩ : ∃ x0 x1 x2, cs = [x0, x1, x2] := by
  match cs, hl with
  | [a, b, c], _ => exact ⟨a, b, c, rfl⟩
 simp at e0 e1 e2
 rw [e0, e1, e2]
 rfl
theorem open_claim {W : World} {base b0 : Nat} {sp : Nat → Bool} {held : Bool} {v : Value} {d : DataW H} {ps : List MemPlace}
  (hok : Value.okWide Tryz.prog W .any b0 24 v) (h : DataW.Trod enc Tryz.prog W base sp held 24 v d ps) : ∃ (x : Cl) (A B : Option Addr) (ca cb : Nat), v = .agg (clC x A ca B cb) ∧ ClOk W x A ca B cb := by
 obtain ⟨cs, rfl, hsz, _⟩ : ∃ cs, v = .agg cs ∧ cs.size = Tryz.prog.cellsOf 24 ∧ Row.okWide Tryz.prog W .any b0 24 cs := by
  simpa [Value.okWide, Tryz.underlying24] using hok
 rw [cellsCl18] at hsz
 obtain ⟨fuel, hf⟩ := h
 obtain ⟨x, A, B, ca, cb, hx, h1⟩ := claim_of_trod (by rw [show (Value.agg cs).cells.toList = cs.toList from rfl, Array.length_toList, hsz]) hf
 refine ⟨x, A, B, ca, cb, ?_, hx⟩
 have h3 : cs.toList = (clC x A ca B cb).toList := h1
 rw [Array.toList_inj.1 h3]
theorem cellsRb18 : Tryz.prog.cellsOf 25 = 2 := by kernel_rfl
theorem open_rb {W : World} {base b0 : Nat} {sp : Nat → Bool} {held : Bool} {v : Value} {d : DataW H} {ps : List MemPlace}
  (hok : Value.okWide Tryz.prog W .any b0 25 v) (h : DataW.Trod enc Tryz.prog W base sp held 25 v d ps) :
  ∃ (R : Option Addr) (cr : Nat) (root : List UInt8) (D : Option Addr) (cd : Nat) (bs : List UInt8), v = .agg #[.slice R root.length cr, .slice D bs.length cd] ∧ BA W R root ∧ root.length ≤ cr ∧ BA W D bs ∧ bs.length ≤ cd := by
 obtain ⟨cs, rfl, hsz, _⟩ : ∃ cs, v = .agg cs ∧ cs.size = Tryz.prog.cellsOf 25 ∧ Row.okWide Tryz.prog W .any b0 25 cs := by
  simpa [Value.okWide, Tryz.underlying25] using hok
 rw [cellsRb18] at hsz
 obtain ⟨fuel, hf⟩ := h
 obtain ⟨xs, m, _, _, _, hlen, hat⟩ := DataW.trod_array Tryz.underlying25 hf
 rw [cellsBs] at hat
 match xs, hlen with
 | [x0, x1], _ =>
  have a0 : DataW.trod enc Tryz.prog W base sp held m 22 ((cs.toList.drop 0).take 1) = some x0 := hat 0 (by decide)
  have a1 : DataW.trod enc Tryz.prog W base sp held m 22 ((cs.toList.drop 1).take 1) = some x1 := hat 1 (by decide)
  obtain ⟨A, c, k, e0, hA, hc, _⟩ := bytes_of_trod (by simp [hsz]) a0
  obtain ⟨B, e, v, e1, hB, he, _⟩ := bytes_of_trod (by simp [hsz]) a1
  refine ⟨A, c, k, B, e, v, ?_, hA, hc, hB, he⟩
  have h3 : cs.toList = (#[.slice A k.length c, .slice B v.length e] : Array Value).toList := by
   rw [show (#[.slice A k.length c, .slice B v.length e] : Array Value).toList = [.slice A k.length c] ++ [.slice B v.length e] from rfl, ← e0, ← e1, List.drop_zero, List.take_of_length_le (l := cs.toList.drop 1) (by simp [hsz]), List.take_append_drop]
  rw [Array.toList_inj.1 h3]
theorem cellsRp18 : Tryz.prog.cellsOf 55 = 131 := by kernel_rfl
theorem cellsD18 : Tryz.prog.cellsOf 47 = 32 := by kernel_rfl
theorem open_rp {W : World} {base b0 : Nat} {sp : Nat → Bool} {held : Bool} {v : Value} {d : DataW H} {ps : List MemPlace}
  (hok : Value.okWide Tryz.prog W .any b0 55 v) (h : DataW.Trod enc Tryz.prog W base sp held 55 v d ps) :
  ∃ (root : List UInt8) (p : Pf) (D : Option Addr) (cd : Nat), v = .agg (rpC root p (.slice D p.sib.length cd)) ∧ root.length = 32 ∧ p.Ok ∧ DS W D p.sib ∧ p.sib.length ≤ cd := by
 obtain ⟨cs, rfl, hsz, _⟩ : ∃ cs, v = .agg cs ∧ cs.size = Tryz.prog.cellsOf 55 ∧ Row.okWide Tryz.prog W .any b0 55 cs := by
  simpa [Value.okWide, Tryz.underlying55] using hok
 rw [cellsRp18] at hsz
 obtain ⟨fuel, hf⟩ := h
 obtain ⟨y0, y1, n, _, _, h0, h1⟩ := trod_struct2 Tryz.underlying55 hf
 have h0' : DataW.trod enc Tryz.prog W base sp held n 47 ((cs.toList.drop 0).take (Tryz.prog.cellsOf 47)) = some y0 := h0
 have h1' : DataW.trod enc Tryz.prog W base sp held n 53 ((cs.toList.drop 32).take (Tryz.prog.cellsOf 53)) = some y1 := h1
 rw [cellsD18] at h0'
 rw [cellsPf] at h1'
 obtain ⟨root, hr, e0⟩ := arr_of_trod Tryz.underlying47 (by simp [hsz]) h0'
 obtain ⟨p, A, c, hp, hd, hc, hm, e1⟩ := pf_of_trod (by simp [hsz]) h1'
 refine ⟨root, p, A, c, ?_, hr, hp, hd, hc⟩
 have h3 : cs.toList = (rpC root p (.slice A p.sib.length c)).toList := by
  rw [show (rpC root p (.slice A p.sib.length c)).toList = root.map bv ++ pfL p (.slice A p.sib.length c) by simp [rpC], ← e0, ← e1, List.drop_zero, List.take_of_length_le (l := cs.toList.drop 32) (by simp [hsz]), List.take_append_drop]
 rw [Array.toList_inj.1 h3]
end
section
open Go.ChangeShapes Go.WideShapes Go.ChangeAt Go.RowKit Go.Joins Go.Deep
theorem gErr : Tryz.prog.globalNamed "errors.errorType" = some 0 := by kernel_rfl
theorem rtypeT : (Tryz.prog.cutTypes.find? (·.1 == "internal/reflectlite.rtype")).map (·.2) = some 186 := by kernel_rfl
theorem oneRow : ((List.range 283).filter fun t => Tryz.prog.rowNamed t [101, 114, 114, 111, 114]) = [38] := by kernel_rfl
theorem typesSize : Tryz.prog.types.size = 283 := by kernel_rfl
theorem errVar13 {W : World} {l : List (String × DataW Unit)} (h : handlesMet Tryz.prog l W) (hm : ("errors.errorType", Rows.laid_errors_errorType) ∈ l) : Ft.ErrVar W := by
 obtain ⟨name, u, ty, e1, e2, e3, e4, e5⟩ := h _ hm
 have en : name = [101, 114, 114, 111, 114] := (Option.some.inj e1).symm
 subst en
 obtain rfl := Option.some.inj (rtypeT.symm.trans e2)
 have hm : ty ∈ (List.range 283).filter fun t => Tryz.prog.rowNamed t [101, 114, 114, 111, 114] := List.mem_filter.2 ⟨List.mem_range.2 (by rw [← typesSize]; exact e3), e4⟩
 rw [oneRow] at hm
 obtain rfl := List.mem_singleton.1 hm
 have hh : typeHandle Tryz.prog 38 = .pointer (some ⟨3, 38, none⟩) := by kernel_rfl
 rw [hh] at e5
 have := World.var?_cell gErr e5 0
 unfold Ft.ErrVar
 rw [this]
 rfl
end
end Go.Proofs.YtjgdindjimbfeaaGreatDoor
