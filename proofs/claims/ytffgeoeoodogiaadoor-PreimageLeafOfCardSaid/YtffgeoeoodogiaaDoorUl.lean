/- Arguments opened: a leaf, two leaves, a key, a digest. -/
import Derived.Test.YtffgeoeoodogiaaDoorUb
import Derived.Test.YtffgeoeoodogiaaDoorEt
namespace Go.Proofs.YtffgeoeoodogiaaDoor
open Go.ChangeShapes Go.WideShapes Go.ChangeAt Go.RowKit Go.Joins Go.Deep
variable {H : Type} {enc : TypeId × Value → H}

theorem cellsD : Tryd.prog.cellsOf 31 = 32 := by kernel_rfl
theorem cellsKey : Tryd.prog.cellsOf 23 = 32 := by kernel_rfl
theorem cellsLeaf : Tryd.prog.cellsOf 33 = 64 := by kernel_rfl
theorem leaf_of_trod {w : World} {base : Nat} {sp : Nat → Bool} {held : Bool} {fuel : Nat} {cs : List Value} {y : DataW H × List MemPlace} (hl : cs.length = 64)
    (hf : DataW.trod enc Tryd.prog w base sp held fuel 33 cs = some y) : ∃ k d : List UInt8, k.length = 32 ∧ d.length = 32 ∧ cs = (k ++ d).map bv := by
  obtain ⟨y0, y1, n, _, _, h0, h1⟩ := trod_struct2 Tryd.underlying33 hf
  have h0' : DataW.trod enc Tryd.prog w base sp held n 23 ((cs.drop 0).take (Tryd.prog.cellsOf 23)) = some y0 := h0
  have h1' : DataW.trod enc Tryd.prog w base sp held n 31 ((cs.drop 32).take (Tryd.prog.cellsOf 31)) = some y1 := h1
  rw [cellsKey] at h0'
  rw [cellsD] at h1'
  obtain ⟨k, hk, e0⟩ := arr_of_trod Tryd.underlying23 (by simp [hl]) h0'
  obtain ⟨d, hd, e1⟩ := arr_of_trod Tryd.underlying31 (by simp [hl]) h1'
  refine ⟨k, d, hk, hd, ?_⟩
  rw [List.map_append, ← e0, ← e1, List.drop_zero, List.take_of_length_le (l := cs.drop 32) (by simp [hl]), List.take_append_drop]
theorem open_leaf {w W : World} {base b0 : Nat} {sp : Nat → Bool} {held : Bool} {v : Value} {d : DataW H} {ps : List MemPlace}
    (hok : Value.okWide Tryd.prog W .any b0 33 v) (h : DataW.Trod enc Tryd.prog w base sp held 33 v d ps) : ∃ k g : List UInt8, k.length = 32 ∧ g.length = 32 ∧ v = .agg (bA (k ++ g)) := by
  obtain ⟨cs, rfl, hsz, _⟩ : ∃ cs, v = .agg cs ∧ cs.size = Tryd.prog.cellsOf 33 ∧ Row.okWide Tryd.prog W .any b0 33 cs := by
    simpa [Value.okWide, Tryd.underlying33] using hok
  rw [cellsLeaf] at hsz
  obtain ⟨fuel, hf⟩ := h
  obtain ⟨k, g, hk, hg, h1⟩ := leaf_of_trod (by rw [show (Value.agg cs).cells.toList = cs.toList from rfl, Array.length_toList, hsz]) hf
  refine ⟨k, g, hk, hg, ?_⟩
  have h3 : cs.toList = (bA (k ++ g)).toList := h1.trans (by simp [bA])
  rw [Array.toList_inj.1 h3]
end Go.Proofs.YtffgeoeoodogiaaDoor
