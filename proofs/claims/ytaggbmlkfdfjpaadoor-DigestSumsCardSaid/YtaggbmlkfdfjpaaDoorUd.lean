/- Arguments opened: a digest, a slice of slices of bytes. -/
import Derived.Test.YtaggbmlkfdfjpaaDoorU
import Derived.Test.YtaggbmlkfdfjpaaDoorDg
import Derived.Deep.Matrix
namespace Go.Proofs.YtaggbmlkfdfjpaaDoor
open Go.ChangeShapes Go.WideShapes Go.ChangeAt Go.RowKit Go.Joins Go.Deep
variable {H : Type} {enc : TypeId × Value → H}

/-- A digest as data. -/
def dd (l : List UInt8) : DataW H := .agg (l.map fun x => .lit (.int .u8 (x.toNat : Int)))
theorem cellsD : Tryd.prog.cellsOf 30 = 32 := by kernel_rfl
theorem cellsS : Tryd.prog.cellsOf 34 = 1 := by kernel_rfl
theorem dig_of_trod {w : World} {base : Nat} {sp : Nat → Bool} {held : Bool} {fuel : Nat} {cs : List Value} {y : DataW H × List MemPlace} (hl : cs.length = 32)
    (hf : DataW.trod enc Tryd.prog w base sp held fuel 30 cs = some y) : ∃ l : List UInt8, l.length = 32 ∧ cs = l.map bv ∧ y = (dd l, []) := by
  obtain ⟨xs, m, rfl, hx, _, hlen, hat⟩ := DataW.trod_array Tryd.underlying30 hf
  rw [cellsB] at hat
  have each : ∀ i, i < 32 → ∃ n : UInt8, cs[i]? = some (bv n) ∧ xs[i]? = some (.lit (.int .u8 (n.toNat : Int)), []) := fun i hi => by
    have h1 := hat i hi
    rw [Nat.mul_one] at h1
    have hg : cs[i]? = some cs[i] := List.getElem?_eq_getElem (by omega)
    have hd : (cs.drop i).take 1 = [cs[i]] := by
      rw [List.drop_eq_getElem_cons (by omega)]; rfl
    obtain ⟨y, hy⟩ : ∃ y, xs[i]? = some y := ⟨_, List.getElem?_eq_getElem (by omega)⟩
    rw [hd, hy] at h1
    obtain ⟨n, e, rfl, wf⟩ := DataW.trod_int Tryd.underlying5 h1
    have hb := bounds_u8 wf
    have hn : ((UInt8.ofNat n.toNat).toNat : Int) = n := by
      rw [UInt8.toNat_ofNat']; omega
    refine ⟨UInt8.ofNat n.toNat, ?_, ?_⟩
    · rw [hg]
      have : cs[i] = .int .u8 n := by simpa using e
      rw [this, bv, hn]
    · rw [hy, hn]
  obtain ⟨f, hf2⟩ := choose_lt each
  refine ⟨(List.range 32).map f, by simp, ?_, ?_⟩
  · apply List.ext_getElem?
    intro i
    rcases Nat.lt_or_ge i 32 with h | h
    · rw [(hf2 i h).1, List.getElem?_map, List.getElem?_map, List.getElem?_range h]; rfl
    · rw [List.getElem?_eq_none (by omega), List.getElem?_eq_none (by simp; omega)]
  · have e2 : xs = (List.range 32).map fun j => (DataW.lit (.int .u8 ((f j).toNat : Int)), []) := by
      apply List.ext_getElem?
      intro i
      rcases Nat.lt_or_ge i 32 with h | h
      · rw [(hf2 i h).2, List.getElem?_map, List.getElem?_range h]; rfl
      · rw [List.getElem?_eq_none (by omega), List.getElem?_eq_none (by simp; omega)]
    subst e2
    rw [hx]
    unfold dd
    refine Prod.ext ?_ ?_
    · show DataW.agg _ = _
      rw [List.map_map, List.map_map]
      rfl
    · show List.flatMap _ _ = _
      simp [List.flatMap_map]
theorem open_dig {w W : World} {base b0 : Nat} {sp : Nat → Bool} {held : Bool} {v : Value} {d : DataW H} {ps : List MemPlace}
    (hok : Value.okWide Tryd.prog W .any b0 30 v) (h : DataW.Trod enc Tryd.prog w base sp held 30 v d ps) : ∃ l : List UInt8, l.length = 32 ∧ v = .agg (bA l) ∧ d = dd l ∧ ps = [] := by
  obtain ⟨cs, rfl, hsz, _⟩ : ∃ cs, v = .agg cs ∧ cs.size = Tryd.prog.cellsOf 30 ∧ Row.okWide Tryd.prog W .any b0 30 cs := by
    simpa [Value.okWide, Tryd.underlying30] using hok
  rw [cellsD] at hsz
  obtain ⟨fuel, hf⟩ := h
  obtain ⟨l, h0, h1, h2⟩ := dig_of_trod (by rw [show (Value.agg cs).cells.toList = cs.toList from rfl, Array.length_toList, hsz]) hf
  simp only [Prod.mk.injEq] at h2
  refine ⟨l, h0, ?_, h2.1, h2.2⟩
  have h3 : cs.toList = (bA l).toList := h1.trans (by simp [bA])
  rw [Array.toList_inj.1 h3]
theorem BA_of {W : World} {A : Option Addr} {L C : Nat} {Z : List Int} (hL : L ≤ C) (hn : A = none → C = 0) (hw : ∀ n ∈ Z, (Lit.int .u8 n).wf = true)
    (hc : ∀ a', A = some a' → ∀ c, c < C → W.cell? (a'.add c) = some (.int .u8 (Z.getD c 0))) : BA W A ((List.range L).map fun c => UInt8.ofNat (Z.getD c 0).toNat) := fun j x hj => by
  have hjl : j < L := by
    have := (List.getElem?_eq_some_iff.1 hj).1
    simpa using this
  cases A with
  | none => have := hn rfl; omega
  | some a =>
    have hcj := hc a rfl j (by omega)
    have hspot : a.spot = none := by simpa [Addr.add] using World.cell?_spot (hc a rfl 0 (by omega))
    obtain ⟨ab, ao, spot⟩ := a
    obtain rfl : spot = none := hspot
    refine ⟨ab, ao, rfl, ?_⟩
    rw [Addr.add_mid] at hcj
    rw [hcj]
    have hb := range_u8 hw j
    rw [← List.getD_eq_getElem?_getD] at hb
    rw [List.getElem?_map, List.getElem?_range hjl, Option.map_some] at hj
    obtain ⟨z, hz0⟩ : ∃ z, z = Z.getD j 0 := ⟨_, rfl⟩
    rw [← hz0] at hb hj ⊢
    have hx2 : x = UInt8.ofNat z.toNat := by simpa using hj.symm
    rw [hx2]
    congr 2
    rw [UInt8.toNat_ofNat']
    omega
theorem open_rows {W : World} {base b0 : Nat} {held : Bool} {v : Value} {d : DataW H} {ps : List MemPlace}
    (hok : Value.okWide Tryd.prog W .any b0 33 v) (h : DataW.Trod enc Tryd.prog W base (fun _ => true) held 33 v d ps) : ∃ A c ls, v = .slice A (List.length ls) c ∧ SL W A ls := by
  obtain ⟨a1, len, cap, rfl⟩ := okWide_slice Tryd.underlying33 hok
  obtain ⟨fuel, hf⟩ := h
  rcases open_int_rows Tryd.underlying33 Tryd.underlying34 Tryd.underlying5 cellsS cellsB hf with ⟨hcs, hx⟩ | ⟨a, len', cap', A, L, C, Z, hcs, _, hl, hm, hx, hat⟩
  · simp [Value.cells] at hcs
    obtain ⟨rfl, rfl, rfl⟩ := hcs
    exact ⟨none, 0, [], rfl, fun i x hx => by simp at hx⟩
  · simp [Value.cells] at hcs
    obtain ⟨rfl, rfl, rfl⟩ := hcs
    refine ⟨some a, cap, (List.range len).map fun r => ⟨A r, (List.range (L r)).map fun c => UInt8.ofNat ((Z r).getD c 0).toNat, C r⟩, by simp, fun i x hi => ?_⟩
    have hil : i < len := by
      have := (List.getElem?_eq_some_iff.1 hi).1
      simpa using this
    rw [List.getElem?_map, List.getElem?_range hil, Option.map_some] at hi
    obtain rfl := Option.some.inj hi
    obtain ⟨h1, h2, h3, h4, h5, h6, h7⟩ := hat i (by omega)
    have hspot : a.spot = none := by simpa [Addr.add] using World.cell?_spot (hat 0 (by omega)).1
    obtain ⟨ab, ao, spot⟩ := a
    obtain rfl : spot = none := hspot
    refine ⟨by simpa using h2, BA_of h2 h6 h5 fun a' ha' => (h7 a' ha').2, ab, ao, rfl, ?_⟩
    rw [Addr.add_mid] at h1
    rw [h1]
    simp
end Go.Proofs.YtaggbmlkfdfjpaaDoor
