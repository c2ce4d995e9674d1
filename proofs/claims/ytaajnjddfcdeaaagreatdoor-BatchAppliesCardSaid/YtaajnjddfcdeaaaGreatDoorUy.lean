/- Arguments opened: a slice of changes (layer 12). -/
import Derived.Test.YtaajnjddfcdeaaaGreatDoorM8
import Derived.Test.YtaajnjddfcdeaaaGreatDoorJ1
import Derived.Deep.Strs
namespace Go.Proofs.YtaajnjddfcdeaaaGreatDoor
open Go.ChangeShapes Go.WideShapes Go.ChangeAt Go.RowKit Go.Joins Go.Deep
variable {H : Type} {enc : TypeId × Value → H}

instance : Inhabited Cn := ⟨⟨[], none, [], 0, false⟩⟩
set_option maxRecDepth 100000 in
theorem cellsCn : Tryz.prog.cellsOf 36 = 34 := by kernel_rfl
set_option maxRecDepth 100000 in
theorem cellsBo : Tryz.prog.cellsOf 4 = 1 := by kernel_rfl
set_option maxRecDepth 100000 in
theorem cn_of_trod {W : World} {base : Nat} {sp : Nat → Bool} {held : Bool} {fuel : Nat} {cs : List Value} {y : DataW H × List MemPlace} (hl : cs.length = 34)
    (hf : DataW.trod enc Tryz.prog W base sp held fuel 36 cs = some y) : ∃ x : Cn, CnOk W x ∧ cs = cnC x := by
  obtain ⟨y0, y1, y2, n, _, _, h0, h1, h2⟩ := trod_struct3 Tryz.underlying36 hf
  have h0' : DataW.trod enc Tryz.prog W base sp held n 31 ((cs.drop 0).take (Tryz.prog.cellsOf 31)) = some y0 := h0
  have h1' : DataW.trod enc Tryz.prog W base sp held n 32 ((cs.drop 32).take (Tryz.prog.cellsOf 32)) = some y1 := h1
  have h2' : DataW.trod enc Tryz.prog W base sp held n 4 ((cs.drop 33).take (Tryz.prog.cellsOf 4)) = some y2 := h2
  rw [cellsKey] at h0'
  rw [cellsBs] at h1'
  rw [cellsBo] at h2'
  obtain ⟨k, hk, e0⟩ := arr_of_trod Tryz.underlying31 (by simp [hl]) h0'
  obtain ⟨A, c, l, e1, hA, hc, hm⟩ := bytes_of_trod (by simp [hl]) h1'
  obtain ⟨b, e2, _⟩ := DataW.trod_bool Tryz.underlying4 h2'
  refine ⟨⟨k, A, l, c, b⟩, ⟨hk, hc, hA⟩, ?_⟩
  show cs = k.map bv ++ [.slice A l.length c, .bool b]
  have e3 : (cs.drop 32).take 1 ++ (cs.drop 33).take 1 = cs.drop 32 := by
    rw [show cs.drop 33 = (cs.drop 32).drop 1 by rw [List.drop_drop], List.take_of_length_le (l := (cs.drop 32).drop 1) (by simp [hl]), List.take_append_drop]
  have e4 : ([.slice A l.length c, .bool b] : List Value) = [.slice A l.length c] ++ [.bool b] := rfl
  rw [e4, ← e1, ← e2, e3, ← e0, List.drop_zero, List.take_append_drop]
set_option maxRecDepth 100000 in
theorem open_cns {W : World} {base b0 : Nat} {sp : Nat → Bool} {held : Bool} {v : Value} {d : DataW H} {ps : List MemPlace}
    (hok : Value.okWide Tryz.prog W .any b0 29 v) (h : DataW.Trod enc Tryz.prog W base sp held 29 v d ps) :
    ∃ A c xs, v = .slice A (List.length xs) c ∧ CA W A xs := by
  obtain ⟨a1, len, cap, rfl⟩ := okWide_slice Tryz.underlying29 hok
  obtain ⟨fuel, hf⟩ := h
  rcases Go.Deep.open_slice Tryz.underlying29 hf with ⟨hcs, hx⟩ | ⟨a, len', cap', m, n, D, Pl, hcs, _, hl, hm, hmm, hx, hat⟩
  · simp [Value.cells] at hcs
    obtain ⟨rfl, rfl, rfl⟩ := hcs
    exact ⟨none, 0, [], rfl, fun j s hj => by simp at hj⟩
  · simp [Value.cells] at hcs
    obtain ⟨rfl, rfl, rfl⟩ := hcs
    rw [cellsCn] at hat
    have hlm : len ≤ m := by rw [hmm]; split <;> omega
    have each : ∀ j, j < len → ∃ x : Cn, CnOk W x ∧ ∀ i v, (cnC x)[i]? = some v → W.cell? ((a.add (j * 34)).add i) = some v := fun j hj => by
      obtain ⟨cs', h1, h2⟩ := hat j (by omega)
      obtain ⟨_, h3, h4⟩ := World.cells?_some h1
      obtain ⟨x, hx, rfl⟩ := cn_of_trod h3 h2
      refine ⟨x, hx, fun i v hv => ?_⟩
      have hi : i < (cnC x).length := (List.getElem?_eq_some_iff.1 hv).1
      rw [h4 i (by omega)]
      exact hv
    obtain ⟨f, hf2⟩ : ∃ f : Nat → Cn, ∀ j, j < len → CnOk W (f j) ∧ ∀ i v, (cnC (f j))[i]? = some v → W.cell? ((a.add (j * 34)).add i) = some v := choose_lt each
    refine ⟨some a, cap, (List.range len).map f, by simp, fun j x hj => ?_⟩
    have hjl : j < len := by
      have := (List.getElem?_eq_some_iff.1 hj).1
      simpa using this
    rw [List.getElem?_map, List.getElem?_range hjl, Option.map_some] at hj
    have hx2 : f j = x := by simpa using hj
    subst hx2
    obtain ⟨h1, h2⟩ := hf2 j hjl
    have h0k : ∃ v, (cnC (f 0))[0]? = some v := ⟨_, List.getElem?_eq_getElem (by rw [cnC_len (hf2 0 (by omega)).1.key]; decide)⟩
    obtain ⟨v0, hv0⟩ := h0k
    have hz := (hf2 0 (by omega)).2 0 v0 hv0
    obtain ⟨ab, ao, spot⟩ := a
    have hspot : spot = none := by simpa [Addr.add] using World.cell?_spot hz
    subst hspot
    refine ⟨h1, ab, ao, rfl, fun i v hv => ?_⟩
    have := h2 i v hv
    rw [Addr.add_mid, Addr.add_mid] at this
    exact this
end Go.Proofs.YtaajnjddfcdeaaaGreatDoor
