/- Arguments opened: a proof. -/
import Derived.Test.YtbkokcfmndiedaaM8
import Derived.Test.YtbkokcfmndiedaaAA
namespace Go.Proofs.Ytbkokcfmndiedaa
open Go.ChangeShapes Go.WideShapes Go.ChangeAt Go.RowKit Go.Joins Go.Deep
variable {H : Type} {enc : TypeId × Value → H}

set_option maxRecDepth 100000 in
theorem cellsPf : Try.prog.cellsOf 29 = 99 := by kernel_rfl
set_option maxRecDepth 100000 in
theorem cellsDs : Try.prog.cellsOf 27 = 1 := by kernel_rfl
theorem cellsInt15 : Try.prog.cellsOf 3 = 1 := by kernel_rfl
theorem cells26 : Try.prog.cellsOf 22 = 32 := by kernel_rfl
/-- A slice of digests, read as data. -/
theorem digs_of_trod {W : World} {base : Nat} {sp : Nat → Bool} {held : Bool} {fuel : Nat} {cs : List Value} {y : DataW H × List MemPlace}
    (hf : DataW.trod enc Try.prog W base sp held fuel 27 cs = some y) : ∃ A c ds, cs = [.slice A (List.length ds) c] ∧ DS W A ds ∧ ds.length ≤ c ∧ ds.length ≤ maxLen := by
  rcases Go.Deep.open_slice Try.underlying27 hf with ⟨hcs, hx⟩ | ⟨a, len, cap, m, n, D, Pl, hcs, _, hl, hm, hmm, hx, hat⟩
  · exact ⟨none, 0, [], hcs, DS.nil _ _, Nat.le_refl _, Nat.zero_le _⟩
  · rw [cellsD] at hat
    have hlm : len ≤ m := by rw [hmm]; split <;> omega
    have each : ∀ j, j < len → ∃ s : List UInt8, s.length = 32 ∧ ∀ i v, (s.map bv)[i]? = some v → W.cell? ((a.add (j * 32)).add i) = some v := fun j hj => by
      obtain ⟨cs', h1, h2⟩ := hat j (by omega)
      obtain ⟨_, h3, h4⟩ := World.cells?_some h1
      obtain ⟨s, hs, rfl⟩ := arr_of_trod Try.underlying24 h3 h2
      refine ⟨s, hs, fun i v hv => ?_⟩
      have hi : i < (s.map bv).length := (List.getElem?_eq_some_iff.1 hv).1
      rw [h4 i (by omega)]
      exact hv
    obtain ⟨f, hf2⟩ : ∃ f : Nat → List UInt8, ∀ j, j < len → (f j).length = 32 ∧ ∀ i v, ((f j).map bv)[i]? = some v → W.cell? ((a.add (j * 32)).add i) = some v := choose_lt each
    refine ⟨some a, cap, (List.range len).map f, by rw [hcs]; simp, fun j x hj => ?_, by simp; omega, by simp; omega⟩
    have hjl : j < len := by
      have := (List.getElem?_eq_some_iff.1 hj).1
      simpa using this
    rw [List.getElem?_map, List.getElem?_range hjl, Option.map_some] at hj
    have hx2 : f j = x := by simpa using hj
    subst hx2
    obtain ⟨h1, h2⟩ := hf2 j hjl
    have h0k : ∃ v, ((f 0).map bv)[0]? = some v := ⟨_, List.getElem?_eq_getElem (by rw [List.length_map, (hf2 0 (by omega)).1]; decide)⟩
    obtain ⟨v0, hv0⟩ := h0k
    have hz := (hf2 0 (by omega)).2 0 v0 hv0
    obtain ⟨ab, ao, spot⟩ := a
    have hspot : spot = none := by simpa [Addr.add] using World.cell?_spot hz
    subst hspot
    refine ⟨h1, ab, ao, rfl, fun i v hv => ?_⟩
    have := h2 i v hv
    rw [Addr.add_mid, Addr.add_mid] at this
    exact this
theorem int_of_trod {W : World} {base : Nat} {sp : Nat → Bool} {held : Bool} {fuel : Nat} {cs : List Value} {y : DataW H × List MemPlace}
    (hf : DataW.trod enc Try.prog W base sp held fuel 3 cs = some y) : ∃ z : Int, cs = [.int .i64 z] := by
  obtain ⟨z, e, _, _⟩ := DataW.trod_int Try.underlying3 hf
  exact ⟨z, e⟩
set_option maxRecDepth 100000 in
theorem pf_of_trod {W : World} {base : Nat} {sp : Nat → Bool} {held : Bool} {fuel : Nat} {cs : List Value} {y : DataW H × List MemPlace} (hl : cs.length = 99)
    (hf : DataW.trod enc Try.prog W base sp held fuel 29 cs = some y) :
    ∃ (p : Pf) (A : Option Addr) (c : Nat), p.Ok ∧ DS W A p.sib ∧ p.sib.length ≤ c ∧ p.sib.length ≤ maxLen ∧ cs = pfL p (.slice A p.sib.length c) := by
  obtain ⟨xs, n, _, rfl, _, hlen, hat⟩ := DataW.trod_struct Try.underlying29 hf
  match xs, hlen with
  | [y0, y1, y2, y3, y4], _ =>
    have h0 : DataW.trod enc Try.prog W base sp held n 3 ((cs.drop 0).take (Try.prog.cellsOf 3)) = some y0 := by simpa using hat 0 _ rfl
    have h1 : DataW.trod enc Try.prog W base sp held n 3 ((cs.drop 1).take (Try.prog.cellsOf 3)) = some y1 := by simpa using hat 1 _ rfl
    have h2 : DataW.trod enc Try.prog W base sp held n 26 ((cs.drop 2).take (Try.prog.cellsOf 26)) = some y2 := by simpa using hat 2 _ rfl
    have h3 : DataW.trod enc Try.prog W base sp held n 22 ((cs.drop 66).take (Try.prog.cellsOf 22)) = some y3 := by simpa using hat 3 _ rfl
    have h4 : DataW.trod enc Try.prog W base sp held n 27 ((cs.drop 98).take (Try.prog.cellsOf 27)) = some y4 := by simpa using hat 4 _ rfl
    rw [cellsInt15] at h0 h1
    rw [cellsLeaf] at h2
    rw [cells26] at h3
    rw [cellsDs] at h4
    obtain ⟨z0, e0⟩ := int_of_trod h0
    obtain ⟨z1, e1⟩ := int_of_trod h1
    obtain ⟨k, g, hk, hg, e2⟩ := leaf_of_trod (by simp [hl]) h2
    obtain ⟨bm, hb, e3⟩ := arr_of_trod Try.underlying22 (by simp [hl]) h3
    obtain ⟨A, c, ds, e4, hd, hc, hm⟩ := digs_of_trod h4
    refine ⟨⟨z0, z1, k ++ g, bm, ds⟩, A, c, ⟨by simp [hk, hg], hb, fun s hs => ?_⟩, hd, hc, hm, ?_⟩
    · obtain ⟨i, hi⟩ := List.getElem?_of_mem hs
      exact (hd i s hi).1
    · show cs = .int .i64 z0 :: .int .i64 z1 :: ((k ++ g).map bv ++ (bm.map bv ++ [.slice A ds.length c]))
      have s0 : cs = (cs.drop 0).take 1 ++ cs.drop 1 := (List.take_append_drop 1 cs).symm
      have s1 : cs.drop 1 = (cs.drop 1).take 1 ++ cs.drop 2 := by rw [← List.drop_drop (i := 1) (j := 1)]; exact (List.take_append_drop 1 (cs.drop 1)).symm
      have s2 : cs.drop 2 = (cs.drop 2).take 64 ++ cs.drop 66 := by
        have := (List.take_append_drop 64 (cs.drop 2)).symm
        rwa [List.drop_drop] at this
      have s3 : cs.drop 66 = (cs.drop 66).take 32 ++ cs.drop 98 := by
        have := (List.take_append_drop 32 (cs.drop 66)).symm
        rwa [List.drop_drop] at this
      have s4 : cs.drop 98 = (cs.drop 98).take 1 := by rw [List.take_of_length_le (by simp [hl])]
      rw [s0, s1, s2, s3, s4, e0, e1, e2, e3, e4]; rfl
set_option maxRecDepth 100000 in
theorem open_proof {W : World} {base b0 : Nat} {sp : Nat → Bool} {held : Bool} {v : Value} {d : DataW H} {ps : List MemPlace}
    (hok : Value.okWide Try.prog W .any b0 29 v) (h : DataW.Trod enc Try.prog W base sp held 29 v d ps) :
    ∃ (p : Pf) (A : Option Addr) (c : Nat), v = .agg (pfC p (.slice A p.sib.length c)) ∧ p.Ok ∧ DS W A p.sib ∧ p.sib.length ≤ c ∧ p.sib.length ≤ maxLen := by
  obtain ⟨cs, rfl, hsz, _⟩ : ∃ cs, v = .agg cs ∧ cs.size = Try.prog.cellsOf 29 ∧ Row.okWide Try.prog W .any b0 29 cs := by
    simpa [Value.okWide, Try.underlying29] using hok
  rw [cellsPf] at hsz
  obtain ⟨fuel, hf⟩ := h
  obtain ⟨p, A, c, hp, hd, hc, hm, h1⟩ := pf_of_trod (by rw [show (Value.agg cs).cells.toList = cs.toList from rfl, Array.length_toList, hsz]) hf
  refine ⟨p, A, c, ?_, hp, hd, hc, hm⟩
  have h3 : cs.toList = (pfC p (.slice A p.sib.length c)).toList := h1
  rw [Array.toList_inj.1 h3]
theorem bytesD : Try.prog.bytesOf 24 = 32 := by kernel_rfl
/-- What the form's reach says of the siblings. -/
theorem sib_weight {W : World} {base : Nat} {sp : Nat → Bool} {held : Bool} {p : Pf} {A : Option Addr} {c : Nat} {d : DataW H} {ps : List MemPlace} {ts : List TypeId} {r : List (DataW H)} (hp : p.Ok)
    (h : DataW.Trod enc Try.prog W base sp held 29 (.agg (pfC p (.slice A p.sib.length c))) d ps) (hw : (DataW.weightsEach Try.prog (29 :: ts) (d :: r)).all (· ≤ reachBytes) = true) : p.sib.length ≤ 4398046511104 := by
  obtain ⟨fuel, hf⟩ := h
  have e98 : (Value.int .i64 p.kind :: .int .i64 p.dep :: (p.lf.map bv ++ p.bm.map bv)).length = 98 := by simp [hp.lf, hp.bm]
  have ef : (Value.agg (pfC p (.slice A p.sib.length c))).cells.toList = (Value.int .i64 p.kind :: .int .i64 p.dep :: (p.lf.map bv ++ p.bm.map bv)) ++ [.slice A p.sib.length c] := by
    show (pfL p _).toArray.toList = _
    simp [pfL]
  obtain ⟨xs, n, _, hx, _, hlen, hat⟩ := DataW.trod_struct Try.underlying29 hf
  match xs, hlen with
  | [y0, y1, y2, y3, y4], _ =>
    have h4 : DataW.trod enc Try.prog W base sp held n 27 (((Value.agg (pfC p (.slice A p.sib.length c))).cells.toList.drop 98).take (Try.prog.cellsOf 27)) = some y4 := by simpa using hat 4 _ rfl
    rw [cellsDs, ef, ← e98, List.drop_left] at h4
    have hd : d = .agg [y0.1, y1.1, y2.1, y3.1, y4.1] := by simpa using congrArg Prod.fst hx
    rcases Go.Deep.open_slice Try.underlying27 h4 with ⟨hcs, _⟩ | ⟨a, len, cap, m, n', D, Pl, hcs, _, _, _, _, hx4, _⟩
    · have : p.sib.length = 0 := by simp at hcs; exact hcs.2.1 ▸ rfl
      omega
    · have hl : len = p.sib.length := by simp at hcs; exact hcs.2.1.symm
      have hy : y4.1 = .slice ((List.range len).map D) ((List.range (m - len)).map fun j => D (len + j)) := by rw [hx4]
      have hall := List.all_eq_true.1 hw
      have hmem : (len + (m - len)) * 32 ∈ DataW.weightsEach Try.prog (29 :: ts) (d :: r) := by
        rw [hd, hy]
        simp only [DataW.weightsEach, DataW.weights, Try.underlying29, Try.underlying27, bytesD, List.map_cons, List.map_nil, List.length_map, List.length_range]
        simp
      have h1 := of_decide_eq_true (hall _ hmem)
      unfold reachBytes at h1
      omega
end Go.Proofs.Ytbkokcfmndiedaa
