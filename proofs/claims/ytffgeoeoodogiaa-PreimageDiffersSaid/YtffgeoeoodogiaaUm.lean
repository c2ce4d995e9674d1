/- Arguments opened: an array of two leaves. -/
import Derived.Test.YtffgeoeoodogiaaUl
namespace Go.Proofs.Ytffgeoeoodogiaa
open Go.ChangeShapes Go.WideShapes Go.ChangeAt Go.RowKit Go.Joins Go.Deep
variable {H : Type} {enc : TypeId × Value → H}

theorem cellsTwo : Try.prog.cellsOf 43 = 128 := by kernel_rfl
theorem open_leaves {w W : World} {base b0 : Nat} {sp : Nat → Bool} {held : Bool} {v : Value} {d : DataW H} {ps : List MemPlace}
    (hok : Value.okWide Try.prog W .any b0 43 v) (h : DataW.Trod enc Try.prog w base sp held 43 v d ps) : ∃ k g k2 g2 : List UInt8, k.length = 32 ∧ g.length = 32 ∧ k2.length = 32 ∧ g2.length = 32 ∧ v = .agg (bA (k ++ (g ++ (k2 ++ g2)))) := by
  obtain ⟨cs, rfl, hsz, _⟩ : ∃ cs, v = .agg cs ∧ cs.size = Try.prog.cellsOf 43 ∧ Row.okWide Try.prog W .any b0 43 cs := by
    simpa [Value.okWide, Try.underlying43] using hok
  rw [cellsTwo] at hsz
  obtain ⟨fuel, hf⟩ := h
  obtain ⟨xs, m, _, _, _, hlen, hat⟩ := DataW.trod_array Try.underlying43 hf
  rw [cellsLeaf] at hat
  have hl : cs.toList.length = 128 := by rw [Array.length_toList, hsz]
  match xs, hlen with
  | [x0, x1], _ =>
    have a0 : DataW.trod enc Try.prog w base sp held m 26 ((cs.toList.drop 0).take 64) = some x0 := hat 0 (by decide)
    have a1 : DataW.trod enc Try.prog w base sp held m 26 ((cs.toList.drop 64).take 64) = some x1 := hat 1 (by decide)
    obtain ⟨k, g, hk, hg, e0⟩ := leaf_of_trod (by simp [hsz]) a0
    obtain ⟨k2, g2, hk2, hg2, e1⟩ := leaf_of_trod (by simp [hsz]) a1
    refine ⟨k, g, k2, g2, hk, hg, hk2, hg2, ?_⟩
    have h3 : cs.toList = (bA (k ++ (g ++ (k2 ++ g2)))).toList := by
      rw [show (bA (k ++ (g ++ (k2 ++ g2)))).toList = (k ++ g).map bv ++ (k2 ++ g2).map bv by simp [bA], ← e0, ← e1, List.drop_zero, List.take_of_length_le (l := cs.toList.drop 64) (by simp [hsz]), List.take_append_drop]
    rw [Array.toList_inj.1 h3]
end Go.Proofs.Ytffgeoeoodogiaa
