/- Arguments opened: two keys. -/
import Derived.Test.YtnmbbfndboohjaaDoorUt
namespace Go.Proofs.YtnmbbfndboohjaaDoor
open Go.ChangeShapes Go.WideShapes Go.ChangeAt Go.RowKit Go.Joins Go.Deep
variable {H : Type} {enc : TypeId × Value → H}

set_option maxRecDepth 100000 in
theorem cellsKey2 : Tryd.prog.cellsOf 54 = 64 := by kernel_rfl
set_option maxRecDepth 100000 in
theorem cellsKey16 : Tryd.prog.cellsOf 23 = 32 := by kernel_rfl
set_option maxRecDepth 100000 in
theorem open_keys2 {W : World} {base b0 : Nat} {sp : Nat → Bool} {held : Bool} {v : Value} {d : DataW H} {ps : List MemPlace}
    (hok : Value.okWide Tryd.prog W .any b0 54 v) (h : DataW.Trod enc Tryd.prog W base sp held 54 v d ps) : ∃ x z : List UInt8, x.length = 32 ∧ z.length = 32 ∧ v = .agg (bA (x ++ z)) := by
  obtain ⟨cs, rfl, hsz, _⟩ : ∃ cs, v = .agg cs ∧ cs.size = Tryd.prog.cellsOf 54 ∧ Row.okWide Tryd.prog W .any b0 54 cs := by
    simpa [Value.okWide, Tryd.underlying54] using hok
  rw [cellsKey2] at hsz
  obtain ⟨fuel, hf⟩ := h
  obtain ⟨xs, m, _, _, _, hlen, hat⟩ := DataW.trod_array Tryd.underlying54 hf
  rw [cellsKey16] at hat
  match xs, hlen with
  | [x0, x1], _ =>
    have a0 : DataW.trod enc Tryd.prog W base sp held m 23 ((cs.toList.drop 0).take 32) = some x0 := hat 0 (by decide)
    have a1 : DataW.trod enc Tryd.prog W base sp held m 23 ((cs.toList.drop 32).take 32) = some x1 := hat 1 (by decide)
    obtain ⟨x, hx, e0⟩ := arr_of_trod Tryd.underlying23 (by simp [hsz]) a0
    obtain ⟨z, hz, e1⟩ := arr_of_trod Tryd.underlying23 (by simp [hsz]) a1
    refine ⟨x, z, hx, hz, ?_⟩
    have h3 : cs.toList = (bA (x ++ z)).toList := by
      rw [show (bA (x ++ z)).toList = x.map bv ++ z.map bv by simp [bA], ← e0, ← e1, List.drop_zero, List.take_of_length_le (l := cs.toList.drop 32) (by simp [hsz]), List.take_append_drop]
    rw [Array.toList_inj.1 h3]
end Go.Proofs.YtnmbbfndboohjaaDoor
