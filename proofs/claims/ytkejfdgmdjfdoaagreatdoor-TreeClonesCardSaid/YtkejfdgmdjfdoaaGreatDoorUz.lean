import Derived.Test.YtkejfdgmdjfdoaaGreatDoorM8
import Derived.Test.YtkejfdgmdjfdoaaGreatDoorT1
import Derived.Deep.Strs
namespace Go.Proofs.YtkejfdgmdjfdoaaGreatDoor
set_option linter.unusedSimpArgs false
set_option linter.unusedVariables false
set_option maxRecDepth 100000
open Go.ChangeShapes Go.WideShapes Go.ChangeAt Go.RowKit Go.Joins Go.Deep
variable {H : Type} {enc : TypeId × Value → H}
instance : Inhabited Un := ⟨⟨none, [], 0, none, [], 0, false⟩⟩
instance : Inhabited On := ⟨⟨0, none, [], 0, none, [], 0, none, [], 0⟩⟩
theorem cellsB13 : Tryz.prog.cellsOf 4 = 1 := by kernel_rfl
theorem cellsI13 : Tryz.prog.cellsOf 3 = 1 := by kernel_rfl
theorem cellsUp : Tryz.prog.cellsOf 77 = 3 := by kernel_rfl
theorem cellsUps : Tryz.prog.cellsOf 32 = 1 := by kernel_rfl
theorem cellsOp13 : Tryz.prog.cellsOf 34 = 4 := by kernel_rfl
theorem un_of_trod {W : World} {base : Nat} {sp : Nat → Bool} {held : Bool} {fuel : Nat} {cs : List Value} {y : DataW H × List MemPlace} (hl : cs.length = 3)
  (hf : DataW.trod enc Tryz.prog W base sp held fuel 77 cs = some y) : ∃ x : Un, UnOk W x ∧ cs = unC x := by
 obtain ⟨y0, y1, y2, n, _, _, h0, h1, h2⟩ := trod_struct3 Tryz.underlying77 hf
 have h0' : DataW.trod enc Tryz.prog W base sp held n 31 ((cs.drop 0).take (Tryz.prog.cellsOf 31)) = some y0 := h0
 have h1' : DataW.trod enc Tryz.prog W base sp held n 31 ((cs.drop 1).take (Tryz.prog.cellsOf 31)) = some y1 := h1
 have h2' : DataW.trod enc Tryz.prog W base sp held n 4 ((cs.drop 2).take (Tryz.prog.cellsOf 4)) = some y2 := h2
 rw [cellsBs] at h0' h1'
 rw [cellsB13] at h2'
 obtain ⟨A, c, k, e0, hA, hc, _⟩ := bytes_of_trod (by simp [hl]) h0'
 obtain ⟨B, e, v, e1, hB, he, _⟩ := bytes_of_trod (by simp [hl]) h1'
 obtain ⟨b, e2, _⟩ := DataW.trod_bool Tryz.underlying4 h2'
 refine ⟨⟨A, k, c, B, v, e, b⟩, ⟨hA, hc, hB, he⟩, ?_⟩
 obtain ⟨x0, x1, x2, rfl⟩ : ∃ x0 x1 x2, cs = [x0, x1, x2] := by
  match cs, hl with
  | [a, b, c], _ => exact ⟨a, b, c, rfl⟩
 simp at e0 e1 e2
 rw [e0, e1, e2]
 rfl
theorem ups_of_trod {W : World} {base : Nat} {sp : Nat → Bool} {held : Bool} {fuel : Nat} {cs : List Value} {y : DataW H × List MemPlace}
  (hf : DataW.trod enc Tryz.prog W base sp held fuel 32 cs = some y) : ∃ A c us, cs = [.slice A (List.length us) c] ∧ UA W A us ∧ us.length ≤ c := by
 rcases Go.Deep.open_slice Tryz.underlying32 hf with ⟨hcs, hx⟩ | ⟨a, len, cap, m, n, D, Pl, hcs, _, hl, hm, hmm, hx, hat⟩
 ·exact ⟨none, 0, [], hcs, fun j s hj => by simp at hj, Nat.zero_le _⟩
 ·rw [cellsUp] at hat
  have hlm : len ≤ m := by rw [hmm]; split <;> omega
  have each : ∀ j, j < len → ∃ x : Un, UnOk W x ∧ ∀ i v, (unC x)[i]? = some v → W.cell? ((a.add (j * 3)).add i) = some v := fun j hj => by
   obtain ⟨cs', h1, h2⟩ := hat j (by omega)
   obtain ⟨_, h3, h4⟩ := World.cells?_some h1
   obtain ⟨x, hx, rfl⟩ := un_of_trod h3 h2
   refine ⟨x, hx, fun i v hv => ?_⟩
   have hi : i < (unC x).length := (List.getElem?_eq_some_iff.1 hv).1
   rw [h4 i (by omega)]
   exact hv
  obtain ⟨f, hf2⟩ : ∃ f : Nat → Un, ∀ j, j < len → UnOk W (f j) ∧ ∀ i v, (unC (f j))[i]? = some v → W.cell? ((a.add (j * 3)).add i) = some v := choose_lt each
  refine ⟨some a, cap, (List.range len).map f, by rw [hcs]; simp, fun j x hj => ?_, by simp; omega⟩
  have hjl : j < len := by
   have := (List.getElem?_eq_some_iff.1 hj).1
   simpa using this
  rw [List.getElem?_map, List.getElem?_range hjl, Option.map_some] at hj
  have hx2 : f j = x := by simpa using hj
  subst hx2
  obtain ⟨h1, h2⟩ := hf2 j hjl
  have hz := (hf2 0 (by omega)).2 0 _ rfl
  obtain ⟨ab, ao, spot⟩ := a
  have hspot : spot = none := by simpa [Addr.add] using World.cell?_spot hz
  subst hspot
  refine ⟨h1, ab, ao, rfl, fun i v hv => ?_⟩
  have := h2 i v hv
  rw [Addr.add_mid, Addr.add_mid] at this
  exact this
theorem open_ups {W : World} {base b0 : Nat} {sp : Nat → Bool} {held : Bool} {v : Value} {d : DataW H} {ps : List MemPlace}
  (hok : Value.okWide Tryz.prog W .any b0 32 v) (h : DataW.Trod enc Tryz.prog W base sp held 32 v d ps) :
  ∃ A c us, v = .slice A (List.length us) c ∧ UA W A us ∧ us.length ≤ c := by
 obtain ⟨a1, len, cap, rfl⟩ := okWide_slice Tryz.underlying32 hok
 obtain ⟨fuel, hf⟩ := h
 obtain ⟨A, c, us, hcs, hA, hc⟩ := ups_of_trod hf
 simp [Value.cells] at hcs
 obtain ⟨rfl, rfl, rfl⟩ := hcs
 exact ⟨_, _, us, rfl, hA, hc⟩
theorem on_of_trod {W : World} {base : Nat} {sp : Nat → Bool} {held : Bool} {fuel : Nat} {cs : List Value} {y : DataW H × List MemPlace} (hl : cs.length = 4)
  (hf : DataW.trod enc Tryz.prog W base sp held fuel 34 cs = some y) : ∃ x : On, OnOk W x ∧ cs = onC x := by
 obtain ⟨y0, y1, y2, y3, n, _, _, h0, h1, h2, h3⟩ := trod_struct4 Tryz.underlying34 hf
 have h0' : DataW.trod enc Tryz.prog W base sp held n 3 ((cs.drop 0).take (Tryz.prog.cellsOf 3)) = some y0 := h0
 have h1' : DataW.trod enc Tryz.prog W base sp held n 31 ((cs.drop 1).take (Tryz.prog.cellsOf 31)) = some y1 := h1
 have h2' : DataW.trod enc Tryz.prog W base sp held n 31 ((cs.drop 2).take (Tryz.prog.cellsOf 31)) = some y2 := h2
 have h3' : DataW.trod enc Tryz.prog W base sp held n 32 ((cs.drop 3).take (Tryz.prog.cellsOf 32)) = some y3 := h3
 rw [cellsI13] at h0'
 rw [cellsBs] at h1' h2'
 rw [cellsUps] at h3'
 obtain ⟨z, e0, _, _⟩ := DataW.trod_int Tryz.underlying3 h0'
 obtain ⟨A, c, k, e1, hA, hc, _⟩ := bytes_of_trod (by simp [hl]) h1'
 obtain ⟨B, e, v, e2, hB, he, _⟩ := bytes_of_trod (by simp [hl]) h2'
 obtain ⟨U, cu, us, e3, hU, hcu⟩ := ups_of_trod h3'
 refine ⟨⟨z, A, k, c, B, v, e, U, us, cu⟩, ⟨hA, hc, hB, he, hU, hcu⟩, ?_⟩
 obtain ⟨x0, x1, x2, x3, rfl⟩ : ∃ x0 x1 x2 x3, cs = [x0, x1, x2, x3] := by
  match cs, hl with
  | [a, b, c, d], _ => exact ⟨a, b, c, d, rfl⟩
 simp at e0 e1 e2 e3
 rw [e0, e1, e2, e3]
 rfl
theorem open_ons {W : World} {base b0 : Nat} {sp : Nat → Bool} {held : Bool} {v : Value} {d : DataW H} {ps : List MemPlace}
  (hok : Value.okWide Tryz.prog W .any b0 22 v) (h : DataW.Trod enc Tryz.prog W base sp held 22 v d ps) :
  ∃ A c os, v = .slice A (List.length os) c ∧ OA W A os := by
 obtain ⟨a1, len, cap, rfl⟩ := okWide_slice Tryz.underlying22 hok
 obtain ⟨fuel, hf⟩ := h
 rcases Go.Deep.open_slice Tryz.underlying22 hf with ⟨hcs, hx⟩ | ⟨a, len', cap', m, n, D, Pl, hcs, _, hl, hm, hmm, hx, hat⟩
 ·simp [Value.cells] at hcs
  obtain ⟨rfl, rfl, rfl⟩ := hcs
  exact ⟨none, 0, [], rfl, fun j s hj => by simp at hj⟩
 ·simp [Value.cells] at hcs
  obtain ⟨rfl, rfl, rfl⟩ := hcs
  rw [cellsOp13] at hat
  have hlm : len ≤ m := by rw [hmm]; split <;> omega
  have each : ∀ j, j < len → ∃ x : On, OnOk W x ∧ ∀ i v, (onC x)[i]? = some v → W.cell? ((a.add (j * 4)).add i) = some v := fun j hj => by
   obtain ⟨cs', h1, h2⟩ := hat j (by omega)
   obtain ⟨_, h3, h4⟩ := World.cells?_some h1
   obtain ⟨x, hx, rfl⟩ := on_of_trod h3 h2
   refine ⟨x, hx, fun i v hv => ?_⟩
   have hi : i < (onC x).length := (List.getElem?_eq_some_iff.1 hv).1
   rw [h4 i (by omega)]
   exact hv
  obtain ⟨f, hf2⟩ : ∃ f : Nat → On, ∀ j, j < len → OnOk W (f j) ∧ ∀ i v, (onC (f j))[i]? = some v → W.cell? ((a.add (j * 4)).add i) = some v := choose_lt each
  refine ⟨some a, cap, (List.range len).map f, by simp, fun j x hj => ?_⟩
  have hjl : j < len := by
   have := (List.getElem?_eq_some_iff.1 hj).1
   simpa using this
  rw [List.getElem?_map, List.getElem?_range hjl, Option.map_some] at hj
  have hx2 : f j = x := by simpa using hj
  subst hx2
  obtain ⟨h1, h2⟩ := hf2 j hjl
  have hz := (hf2 0 (by omega)).2 0 _ rfl
  obtain ⟨ab, ao, spot⟩ := a
  have hspot : spot = none := by simpa [Addr.add] using World.cell?_spot hz
  subst hspot
  refine ⟨h1, ab, ao, rfl, fun i v hv => ?_⟩
  have := h2 i v hv
  rw [Addr.add_mid, Addr.add_mid] at this
  exact this
end Go.Proofs.YtkejfdgmdjfdoaaGreatDoor
