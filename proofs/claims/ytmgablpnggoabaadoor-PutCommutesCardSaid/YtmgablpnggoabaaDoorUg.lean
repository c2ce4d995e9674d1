/- Arguments opened: two entries, an entry with a depth. -/
import Derived.Test.YtmgablpnggoabaaDoorM8
namespace Go.Proofs.YtmgablpnggoabaaDoor
open Go.ChangeShapes Go.WideShapes Go.ChangeAt Go.RowKit Go.Joins Go.Deep
variable {H : Type} {enc : TypeId × Value → H}

set_option maxRecDepth 100000 in
theorem cellsInt9 : Tryd.prog.cellsOf 3 = 1 := by kernel_rfl
set_option maxRecDepth 100000 in
theorem cellsEnt2 : Tryd.prog.cellsOf 43 = 66 := by kernel_rfl
set_option maxRecDepth 100000 in
theorem open_ents2 {W : World} {base b0 : Nat} {sp : Nat → Bool} {held : Bool} {v : Value} {d : DataW H} {ps : List MemPlace}
    (hok : Value.okWide Tryd.prog W .any b0 43 v) (h : DataW.Trod enc Tryd.prog W base sp held 43 v d ps) : ∃ x z : En, EnOk W x ∧ EnOk W z ∧ v = .agg (enC x ++ enC z).toArray := by
  obtain ⟨cs, rfl, hsz, _⟩ : ∃ cs, v = .agg cs ∧ cs.size = Tryd.prog.cellsOf 43 ∧ Row.okWide Tryd.prog W .any b0 43 cs := by
    simpa [Value.okWide, Tryd.underlying43] using hok
  rw [cellsEnt2] at hsz
  obtain ⟨fuel, hf⟩ := h
  obtain ⟨xs, m, _, _, _, hlen, hat⟩ := DataW.trod_array Tryd.underlying43 hf
  rw [cellsEnt] at hat
  have hl : cs.toList.length = 66 := by rw [Array.length_toList, hsz]
  match xs, hlen with
  | [x0, x1], _ =>
    have a0 : DataW.trod enc Tryd.prog W base sp held m 27 ((cs.toList.drop 0).take 33) = some x0 := hat 0 (by decide)
    have a1 : DataW.trod enc Tryd.prog W base sp held m 27 ((cs.toList.drop 33).take 33) = some x1 := hat 1 (by decide)
    obtain ⟨x, hx, e0, _⟩ := ent_of_trod (by simp [hsz]) a0
    obtain ⟨z, hz, e1, _⟩ := ent_of_trod (by simp [hsz]) a1
    refine ⟨x, z, hx, hz, ?_⟩
    have h3 : cs.toList = (enC x ++ enC z).toArray.toList := by
      rw [show (enC x ++ enC z).toArray.toList = enC x ++ enC z from rfl, ← e0, ← e1, List.drop_zero, List.take_of_length_le (l := cs.toList.drop 33) (by simp [hsz]), List.take_append_drop]
    rw [Array.toList_inj.1 h3]
set_option maxRecDepth 100000 in
theorem cellsEd : Tryd.prog.cellsOf 49 = 34 := by kernel_rfl
set_option maxRecDepth 100000 in
theorem open_ed {W : World} {base b0 : Nat} {sp : Nat → Bool} {held : Bool} {v : Value} {d : DataW H} {ps : List MemPlace}
    (hok : Value.okWide Tryd.prog W .any b0 49 v) (h : DataW.Trod enc Tryd.prog W base sp held 49 v d ps) : ∃ (e : En) (x : Int), EnOk W e ∧ v = .agg (enC e ++ [Value.int .i64 x]).toArray := by
  obtain ⟨cs, rfl, hsz, _⟩ : ∃ cs, v = .agg cs ∧ cs.size = Tryd.prog.cellsOf 49 ∧ Row.okWide Tryd.prog W .any b0 49 cs := by
    simpa [Value.okWide, Tryd.underlying49] using hok
  rw [cellsEd] at hsz
  obtain ⟨fuel, hf⟩ := h
  obtain ⟨y0, y1, n, _, _, h0, h1⟩ := trod_struct2 Tryd.underlying49 hf
  have hl : cs.toList.length = 34 := by rw [Array.length_toList, hsz]
  have h0' : DataW.trod enc Tryd.prog W base sp held n 27 ((cs.toList.drop 0).take (Tryd.prog.cellsOf 27)) = some y0 := h0
  have h1' : DataW.trod enc Tryd.prog W base sp held n 3 ((cs.toList.drop 33).take (Tryd.prog.cellsOf 3)) = some y1 := h1
  rw [cellsEnt] at h0'
  rw [cellsInt9] at h1'
  obtain ⟨e, he, e0, _⟩ := ent_of_trod (by simp [hl]) h0'
  obtain ⟨x, e1, _, _⟩ := DataW.trod_int Tryd.underlying3 h1'
  refine ⟨e, x, he, ?_⟩
  have h3 : cs.toList = (enC e ++ [Value.int .i64 x] : List Value) := by
    rw [← e0, ← e1, List.drop_zero, List.take_of_length_le (l := cs.toList.drop 33) (by simp [hl]), List.take_append_drop]
  have h4 : cs.toList = (enC e ++ [Value.int .i64 x]).toArray.toList := h3
  rw [Array.toList_inj.1 h4]
end Go.Proofs.YtmgablpnggoabaaDoor
