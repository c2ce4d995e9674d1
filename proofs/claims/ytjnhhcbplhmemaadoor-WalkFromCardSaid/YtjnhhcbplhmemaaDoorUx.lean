/- Arguments opened: a key with a number (layer 11). -/
import Derived.Test.YtjnhhcbplhmemaaDoorM8
namespace Go.Proofs.YtjnhhcbplhmemaaDoor
open Go.ChangeShapes Go.WideShapes Go.ChangeAt Go.RowKit Go.Joins Go.Deep
variable {H : Type} {enc : TypeId × Value → H}

set_option maxRecDepth 100000 in
theorem cellsKm : Tryd.prog.cellsOf 41 = 33 := by kernel_rfl
set_option maxRecDepth 100000 in
theorem cellsIn11 : Tryd.prog.cellsOf 3 = 1 := by kernel_rfl
set_option maxRecDepth 100000 in
theorem open_km {w W : World} {base b0 : Nat} {sp : Nat → Bool} {held : Bool} {v : Value} {d : DataW H} {ps : List MemPlace}
    (hok : Value.okWide Tryd.prog W .any b0 41 v) (h : DataW.Trod enc Tryd.prog w base sp held 41 v d ps) : ∃ (k : List UInt8) (x : Int), k.length = 32 ∧ v = .agg (k.map bv ++ [Value.int .i64 x]).toArray ∧ -9223372036854775808 ≤ x ∧ x ≤ 9223372036854775807 := by
  obtain ⟨cs, rfl, hsz, _⟩ : ∃ cs, v = .agg cs ∧ cs.size = Tryd.prog.cellsOf 41 ∧ Row.okWide Tryd.prog W .any b0 41 cs := by
    simpa [Value.okWide, Tryd.underlying41] using hok
  rw [cellsKm] at hsz
  obtain ⟨fuel, hf⟩ := h
  obtain ⟨y0, y1, n, _, _, h0, h1⟩ := trod_struct2 Tryd.underlying41 hf
  have hl : cs.toList.length = 33 := by rw [Array.length_toList, hsz]
  have h0' : DataW.trod enc Tryd.prog w base sp held n 31 ((cs.toList.drop 0).take (Tryd.prog.cellsOf 31)) = some y0 := h0
  have h1' : DataW.trod enc Tryd.prog w base sp held n 3 ((cs.toList.drop 32).take (Tryd.prog.cellsOf 3)) = some y1 := h1
  rw [cellsKey] at h0'
  rw [cellsIn11] at h1'
  obtain ⟨k, hk, e0⟩ := arr_of_trod Tryd.underlying31 (by simp [hl]) h0'
  obtain ⟨x, e1, _, e3⟩ := DataW.trod_int Tryd.underlying3 h1'
  refine ⟨k, x, hk, ?_, ?_⟩
  rotate_left 1
  · exact bounds_i64 e3
  have h3 : cs.toList = (k.map bv ++ [Value.int .i64 x] : List Value) := by
    rw [← e0, ← e1, List.drop_zero, List.take_of_length_le (l := cs.toList.drop 32) (by simp [hl]), List.take_append_drop]
  have h4 : cs.toList = (k.map bv ++ [Value.int .i64 x]).toArray.toList := h3
  rw [Array.toList_inj.1 h4]
end Go.Proofs.YtjnhhcbplhmemaaDoor
