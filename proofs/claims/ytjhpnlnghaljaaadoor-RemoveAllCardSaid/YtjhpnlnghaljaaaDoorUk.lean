/- Arguments opened: a slice of keys. -/
import Derived.Test.YtjhpnlnghaljaaaDoorM8
import Derived.Test.YtjhpnlnghaljaaaDoorMY
namespace Go.Proofs.YtjhpnlnghaljaaaDoor
open Go.ChangeShapes Go.WideShapes Go.ChangeAt Go.RowKit Go.Joins Go.Deep
variable {H : Type} {enc : TypeId × Value → H}

set_option maxRecDepth 100000 in
theorem open_ks {W : World} {base b0 : Nat} {sp : Nat → Bool} {held : Bool} {v : Value} {d : DataW H} {ps : List MemPlace}
    (hok : Value.okWide Tryd.prog W .any b0 47 v) (h : DataW.Trod enc Tryd.prog W base sp held 47 v d ps) :
    ∃ A c ks, v = .slice A (List.length ks) c ∧ KS W A ks := by
  obtain ⟨a1, len, cap, rfl⟩ := okWide_slice Tryd.underlying47 hok
  obtain ⟨fuel, hf⟩ := h
  rcases Go.Deep.open_slice Tryd.underlying47 hf with ⟨hcs, hx⟩ | ⟨a, len', cap', m, n, D, Pl, hcs, _, hl, hm, hmm, hx, hat⟩
  · simp [Value.cells] at hcs
    obtain ⟨rfl, rfl, rfl⟩ := hcs
    exact ⟨none, 0, [], rfl, fun j s hj => by simp at hj⟩
  · simp [Value.cells] at hcs
    obtain ⟨rfl, rfl, rfl⟩ := hcs
    rw [cellsKey] at hat
    have hlm : len ≤ m := by rw [hmm]; split <;> omega
    have each : ∀ j, j < len → ∃ k : List UInt8, k.length = 32 ∧ ∀ i v, (k.map bv)[i]? = some v → W.cell? ((a.add (j * 32)).add i) = some v := fun j hj => by
      obtain ⟨cs', h1, h2⟩ := hat j (by omega)
      obtain ⟨_, h3, h4⟩ := World.cells?_some h1
      obtain ⟨k, hk, rfl⟩ := arr_of_trod Tryd.underlying24 h3 h2
      refine ⟨k, hk, fun i v hv => ?_⟩
      have hi : i < (k.map bv).length := (List.getElem?_eq_some_iff.1 hv).1
      rw [h4 i (by rwa [List.length_map, hk] at hi)]
      exact hv
    obtain ⟨f, hf2⟩ : ∃ f : Nat → List UInt8, ∀ j, j < len → (f j).length = 32 ∧ ∀ i v, ((f j).map bv)[i]? = some v → W.cell? ((a.add (j * 32)).add i) = some v := choose_lt each
    refine ⟨some a, cap, (List.range len).map f, by simp, fun j x hj => ?_⟩
    have hjl : j < len := by
      have := (List.getElem?_eq_some_iff.1 hj).1
      simpa using this
    rw [List.getElem?_map, List.getElem?_range hjl, Option.map_some] at hj
    have hx2 : f j = x := by simpa using hj
    subst hx2
    obtain ⟨h1, h2⟩ := hf2 j hjl
    have h0k : ∃ v, ((f 0).map bv)[0]? = some v := ⟨_, List.getElem?_eq_getElem (by rw [List.length_map, (hf2 0 (by omega)).1]; decide)⟩
    obtain ⟨v0, hv0⟩ := h0k
    have hz := (hf2 0 (by omega)).2 0 v0 hv0
    obtain ⟨ab, ao, spot⟩ := a
    have hspot : spot = none := by simpa [Addr.add] using World.cell?_spot hz
    subst hspot
    refine ⟨h1, ab, ao, rfl, fun i v hv => ?_⟩
    have := h2 i v hv
    rw [Addr.add_mid, Addr.add_mid] at this
    exact this
end Go.Proofs.YtjhpnlnghaljaaaDoor
