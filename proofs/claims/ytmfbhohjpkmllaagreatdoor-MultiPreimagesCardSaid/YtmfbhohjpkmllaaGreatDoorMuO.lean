import Derived.Test.YtmfbhohjpkmllaaGreatDoorM8
import Derived.Test.YtmfbhohjpkmllaaGreatDoorYa
import Derived.Test.YtmfbhohjpkmllaaGreatDoorIA
namespace Go.Proofs.YtmfbhohjpkmllaaGreatDoor
set_option linter.unusedSimpArgs false
set_option linter.unusedVariables false
set_option maxRecDepth 100000
open Go.ChangeShapes Go.WideShapes Go.ChangeAt Go.RowKit Go.Joins Go.Deep
variable {H : Type} {enc : TypeId × Value → H}
theorem cellsIt : Tryz.prog.cellsOf 59 = 97 := by kernel_rfl
theorem cellsInt19 : Tryz.prog.cellsOf 3 = 1 := by kernel_rfl
theorem int_of_trod19 {W : World} {base : Nat} {sp : Nat → Bool} {held : Bool} {fuel : Nat} {cs : List Value} {y : DataW H × List MemPlace}
  (hf : DataW.trod enc Tryz.prog W base sp held fuel 3 cs = some y) : ∃ z : Int, cs = [.int .i64 z] := by
 obtain ⟨z, e, _, _⟩ := DataW.trod_int Tryz.underlying3 hf
 exact ⟨z, e⟩
theorem it_of_trod {W : World} {base : Nat} {sp : Nat → Bool} {held : Bool} {fuel : Nat} {cs : List Value} {y : DataW H × List MemPlace} (hl : cs.length = 97)
  (hf : DataW.trod enc Tryz.prog W base sp held fuel 59 cs = some y) : ∃ x : It, x.Ok ∧ cs = itL x := by
 obtain ⟨xs, n, _, rfl, _, hlen, hat⟩ := DataW.trod_struct Tryz.underlying59 hf
 match xs, hlen with
 | [y0, y1, y2], _ =>
  have h0 : DataW.trod enc Tryz.prog W base sp held n 3 ((cs.drop 0).take (Tryz.prog.cellsOf 3)) = some y0 := by simpa using hat 0 _ rfl
  have h1 : DataW.trod enc Tryz.prog W base sp held n 45 ((cs.drop 1).take (Tryz.prog.cellsOf 45)) = some y1 := by simpa using hat 1 _ rfl
  have h2 : DataW.trod enc Tryz.prog W base sp held n 57 ((cs.drop 33).take (Tryz.prog.cellsOf 57)) = some y2 := by simpa using hat 2 _ rfl
  rw [cellsInt19] at h0
  rw [cellsD] at h1
  rw [cellsLeaf] at h2
  obtain ⟨z0, e0⟩ := int_of_trod19 h0
  obtain ⟨dg, hd, e1⟩ := arr_of_trod Tryz.underlying45 (by simp [hl]) h1
  obtain ⟨k, g, hk, hg, e2⟩ := leaf_of_trod (by simp [hl]) h2
  refine ⟨⟨z0, dg, k ++ g⟩, ⟨hd, by show (k ++ g).length = 64; simp [hk, hg]⟩, ?_⟩
  show cs = .int .i64 z0 :: (dg.map bv ++ (k ++ g).map bv)
  have s0 : cs = (cs.drop 0).take 1 ++ cs.drop 1 := (List.take_append_drop 1 cs).symm
  have s1 : cs.drop 1 = (cs.drop 1).take 32 ++ cs.drop 33 := by
   have := (List.take_append_drop 32 (cs.drop 1)).symm
   rwa [List.drop_drop] at this
  have s2 : cs.drop 33 = (cs.drop 33).take 64 := by rw [List.take_of_length_le (by simp [hl])]
  rw [s0, s1, s2, e0, e1, e2]; rfl
theorem open_items {W : World} {base b0 : Nat} {sp : Nat → Bool} {held : Bool} {v : Value} {d : DataW H} {ps : List MemPlace}
  (hok : Value.okWide Tryz.prog W .any b0 30 v) (h : DataW.Trod enc Tryz.prog W base sp held 30 v d ps) :
  ∃ A c l, v = .slice A (List.length l) c ∧ IA W A l ∧ l.length ≤ c := by
 obtain ⟨a1, len, cap, rfl⟩ := okWide_slice Tryz.underlying30 hok
 obtain ⟨fuel, hf⟩ := h
 rcases Go.Deep.open_slice Tryz.underlying30 hf with ⟨hcs, hx⟩ | ⟨a, len', cap', m, n, D, Pl, hcs, _, hl, hm, hmm, hx, hat⟩
 ·simp [Value.cells] at hcs
  obtain ⟨rfl, rfl, rfl⟩ := hcs
  exact ⟨none, 0, [], rfl, fun j s hj => by simp at hj, Nat.le_refl _⟩
 ·simp [Value.cells] at hcs
  obtain ⟨rfl, rfl, rfl⟩ := hcs
  rw [cellsIt] at hat
  have hlm : len ≤ m := by rw [hmm]; split <;> omega
  have each : ∀ j, j < len → ∃ x : It, x.Ok ∧ ∀ i v, (itL x)[i]? = some v → W.cell? ((a.add (j * 97)).add i) = some v := fun j hj => by
   obtain ⟨cs', h1, h2⟩ := hat j (by omega)
   obtain ⟨_, h3, h4⟩ := World.cells?_some h1
   obtain ⟨x, hx, rfl⟩ := it_of_trod h3 h2
   refine ⟨x, hx, fun i v hv => ?_⟩
   have hi : i < (itL x).length := (List.getElem?_eq_some_iff.1 hv).1
   rw [h4 i (by rwa [itL_len hx] at hi)]
   exact hv
  have : Inhabited It := ⟨zIt⟩
  obtain ⟨f, hf2⟩ : ∃ f : Nat → It, ∀ j, j < len → (f j).Ok ∧ ∀ i v, (itL (f j))[i]? = some v → W.cell? ((a.add (j * 97)).add i) = some v := choose_lt each
  refine ⟨some a, cap, (List.range len).map f, by simp, fun j x hj => ?_, by simp; omega⟩
  have hjl : j < len := by
   have := (List.getElem?_eq_some_iff.1 hj).1
   simpa using this
  rw [List.getElem?_map, List.getElem?_range hjl, Option.map_some] at hj
  have hx2 : f j = x := by simpa using hj
  subst hx2
  obtain ⟨h1, h2⟩ := hf2 j hjl
  have hz := (hf2 0 (by omega)).2 0 _ rfl
  obtain ⟨ab, ao, spot⟩ := a
  have hspot : spot = none := by simpa [Addr.add] using World.cell?_spot hz
  subst hspot
  refine ⟨h1, ab, ao, rfl, fun i v hv => ?_⟩
  have := h2 i v hv
  rw [Addr.add_mid, Addr.add_mid] at this
  exact this
theorem open_ks19 {W : World} {base b0 : Nat} {sp : Nat → Bool} {held : Bool} {v : Value} {d : DataW H} {ps : List MemPlace}
  (hok : Value.okWide Tryz.prog W .any b0 23 v) (h : DataW.Trod enc Tryz.prog W base sp held 23 v d ps) :
  ∃ A c ks, v = .slice A (List.length ks) c ∧ KS W A ks ∧ ks.length ≤ c := by
 obtain ⟨a1, len, cap, rfl⟩ := okWide_slice Tryz.underlying23 hok
 obtain ⟨fuel, hf⟩ := h
 rcases Go.Deep.open_slice Tryz.underlying23 hf with ⟨hcs, hx⟩ | ⟨a, len', cap', m, n, D, Pl, hcs, _, hl, hm, hmm, hx, hat⟩
 ·simp [Value.cells] at hcs
  obtain ⟨rfl, rfl, rfl⟩ := hcs
  exact ⟨none, 0, [], rfl, fun j s hj => by simp at hj, Nat.le_refl _⟩
 ·simp [Value.cells] at hcs
  obtain ⟨rfl, rfl, rfl⟩ := hcs
  rw [cellsKey] at hat
  have hlm : len ≤ m := by rw [hmm]; split <;> omega
  have each : ∀ j, j < len → ∃ k : List UInt8, k.length = 32 ∧ ∀ i v, (k.map bv)[i]? = some v → W.cell? ((a.add (j * 32)).add i) = some v := fun j hj => by
   obtain ⟨cs', h1, h2⟩ := hat j (by omega)
   obtain ⟨_, h3, h4⟩ := World.cells?_some h1
   obtain ⟨k, hk, rfl⟩ := arr_of_trod Tryz.underlying39 h3 h2
   refine ⟨k, hk, fun i v hv => ?_⟩
   have hi : i < (k.map bv).length := (List.getElem?_eq_some_iff.1 hv).1
   rw [h4 i (by rwa [List.length_map, hk] at hi)]
   exact hv
  obtain ⟨f, hf2⟩ : ∃ f : Nat → List UInt8, ∀ j, j < len → (f j).length = 32 ∧ ∀ i v, ((f j).map bv)[i]? = some v → W.cell? ((a.add (j * 32)).add i) = some v := choose_lt each
  refine ⟨some a, cap, (List.range len).map f, by simp, fun j x hj => ?_, by simp; omega⟩
  have hjl : j < len := by
   have := (List.getElem?_eq_some_iff.1 hj).1
   simpa using this
  rw [List.getElem?_map, List.getElem?_range hjl, Option.map_some] at hj
  have hx2 : f j = x := by simpa using hj
  subst hx2
  obtain ⟨h1, h2⟩ := hf2 j hjl
  have h0k : ∃ v, ((f 0).map bv)[0]? = some v := ⟨_, List.getElem?_eq_getElem (by rw [List.length_map, (hf2 0 (by omega)).1]; decide)⟩
  obtain ⟨v0, hv0⟩ := h0k
  have hz := (hf2 0 (by omega)).2 0 v0 hv0
  obtain ⟨ab, ao, spot⟩ := a
  have hspot : spot = none := by simpa [Addr.add] using World.cell?_spot hz
  subst hspot
  refine ⟨h1, ab, ao, rfl, fun i v hv => ?_⟩
  have := h2 i v hv
  rw [Addr.add_mid, Addr.add_mid] at this
  exact this
end Go.Proofs.YtmfbhohjpkmllaaGreatDoor
