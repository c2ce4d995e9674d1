/- Arguments opened: a key, a slice of bytes, a slice of keys. -/
import Derived.Test.YthpbfmjogecbmaaT
import Derived.ProofKit
import Derived.OpenShut
import Derived.Deep.Slices
import Derived.Carry
import Derived.ChangeSlices
namespace Go.Proofs.Ythpbfmjogecbmaa
open Go.ChangeShapes Go.WideShapes Go.ChangeAt Go.RowKit
variable {H : Type} {enc : TypeId × Value → H}

/-- A key as data. -/
def kd (k : Nat → Nat) : DataW H := .agg ((List.range 32).map fun j => .lit (.int .u8 (k j)))
theorem cells5 : Try.prog.cellsOf 5 = 1 := by kernel_rfl
theorem cells24 : Try.prog.cellsOf 24 = 32 := by kernel_rfl
theorem laidOut : laidOutB Try.prog = true := by kernel_rfl
theorem own : ownKnob Try.prog.godebug = none := by kernel_rfl

theorem key_of_trod {w : World} {base : Nat} {sp : Nat → Bool} {held : Bool} {fuel : Nat} {cs : List Value} {y : DataW H × List MemPlace} (hl : cs.length = 32)
    (hf : DataW.trod enc Try.prog w base sp held fuel 24 cs = some y) : ∃ k : K, cs = (kc k.f).toList ∧ y = (kd k.f, []) := by
  obtain ⟨xs, m, rfl, hx, _, hlen, hat⟩ := DataW.trod_array Try.underlying24 hf
  rw [cells5] at hat
  have each : ∀ i, i < 32 → ∃ n : Nat, n < 256 ∧ cs[i]? = some (.int .u8 n) ∧ xs[i]? = some (.lit (.int .u8 n), []) := fun i hi => by
    have h1 := hat i hi
    rw [Nat.mul_one] at h1
    have hg : cs[i]? = some cs[i] := List.getElem?_eq_getElem (by omega)
    have hd : (cs.drop i).take 1 = [cs[i]] := by
      rw [List.drop_eq_getElem_cons (by omega)]; rfl
    have hxi : ∃ y, xs[i]? = some y := ⟨_, List.getElem?_eq_getElem (by omega)⟩
    obtain ⟨y, hy⟩ := hxi
    rw [hd, hy] at h1
    obtain ⟨n, e, rfl, wf⟩ := DataW.trod_int Try.underlying5 h1
    have hb := bounds_u8 wf
    refine ⟨n.toNat, by omega, ?_, ?_⟩
    · rw [hg]
      have : cs[i] = .int .u8 n := by simpa using e
      rw [this, Int.toNat_of_nonneg hb.1]
    · rw [hy, Int.toNat_of_nonneg hb.1]
  obtain ⟨k, hk⟩ : ∃ k : K, ∀ i, i < 32 → cs[i]? = some (.int .u8 (k.f i)) ∧ xs[i]? = some (.lit (.int .u8 (k.f i)), []) := by
    refine ⟨⟨fun i => if h : i < 32 then Classical.choose (each i h) else 0, fun i => ?_, fun i hi => by simp only [dif_neg (show ¬ i < 32 by omega)]⟩, fun i h => ?_⟩
    · by_cases h : i < 32
      · simp only [dif_pos h]
        exact (Classical.choose_spec (each i h)).1
      · simp only [dif_neg h]
        decide
    · simp only [dif_pos h]
      exact (Classical.choose_spec (each i h)).2
  have e1 : cs = (kc k.f).toList := by
    apply List.ext_getElem?
    intro i
    rcases Nat.lt_or_ge i 32 with h | h
    · have := kc_at k.f i h
      rw [← Array.getElem?_toList] at this
      rw [this, (hk i h).1]
    · rw [List.getElem?_eq_none (by omega), List.getElem?_eq_none (by rw [kc_len]; exact h)]
  have e2 : xs = (List.range 32).map fun j => (DataW.lit (.int .u8 (k.f j)), []) := by
    apply List.ext_getElem?
    intro i
    rcases Nat.lt_or_ge i 32 with h | h
    · rw [(hk i h).2, List.getElem?_map, List.getElem?_range h]; rfl
    · rw [List.getElem?_eq_none (by omega), List.getElem?_eq_none (by simp; omega)]
  subst e2
  refine ⟨k, e1, ?_⟩
  rw [hx]
  unfold kd
  refine Prod.ext ?_ ?_
  · show DataW.agg _ = _
    rw [List.map_map]
    rfl
  · show List.flatMap _ _ = _
    simp [List.flatMap_map]
theorem open_key {w W : World} {base b0 : Nat} {sp : Nat → Bool} {held : Bool} {v : Value} {d : DataW H} {ps : List MemPlace}
    (hok : Value.okWide Try.prog W .any b0 24 v) (h : DataW.Trod enc Try.prog w base sp held 24 v d ps) : ∃ k : K, v = .agg (kc k.f) ∧ d = kd k.f ∧ ps = [] := by
  obtain ⟨cs, rfl, hsz, _⟩ : ∃ cs, v = .agg cs ∧ cs.size = Try.prog.cellsOf 24 ∧ Row.okWide Try.prog W .any b0 24 cs := by
    simpa [Value.okWide, Try.underlying24] using hok
  rw [cells24] at hsz
  obtain ⟨fuel, hf⟩ := h
  obtain ⟨k, h1, h2⟩ := key_of_trod (by rw [show (Value.agg cs).cells.toList = cs.toList from rfl, Array.length_toList, hsz]) hf
  simp only [Prod.mk.injEq] at h2
  refine ⟨k, ?_, h2.1, h2.2⟩
  have : cs.toList = (kc k.f).toList := h1
  rw [Array.toList_inj.1 this]
theorem open_bytes {W : World} {base b0 : Nat} {sp : Nat → Bool} {held : Bool} {v : Value} {d : DataW H} {ps : List MemPlace}
    (hok : Value.okWide Try.prog W .any b0 22 v) (h : DataW.Trod enc Try.prog W base sp held 22 v d ps) : ∃ A c l, v = .slice A (List.length l) c ∧ BA W A l ∧ l.length ≤ maxLen := by
  obtain ⟨a1, len, cap, rfl⟩ := okWide_slice Try.underlying22 hok
  obtain ⟨fuel, hf⟩ := h
  rcases open_ints Try.underlying22 Try.underlying5 cells5 hf with ⟨hcs, hx⟩ | ⟨a, len', cap', zs, hcs, _, hl, hm, hz, hx, hcell, hwz⟩
  · simp [Value.cells] at hcs
    obtain ⟨rfl, rfl, rfl⟩ := hcs
    exact ⟨none, 0, [], rfl, BA.empty _ _, Nat.zero_le _⟩
  · simp [Value.cells] at hcs
    obtain ⟨rfl, rfl, rfl⟩ := hcs
    have hz2 : len ≤ zs.length := by rw [hz]; split <;> omega
    refine ⟨some a, cap, (zs.take len).map fun n => UInt8.ofNat n.toNat, ?_, fun j x hj => ?_, ?_⟩
    · simp; omega
    · have hjl : j < len := by
        have := (List.getElem?_eq_some_iff.1 hj).1
        simp at this
        omega
      have hcj := hcell j (by omega)
      obtain ⟨ab, ao, spot⟩ := a
      have hspot : spot = none := by simpa [Addr.add] using World.cell?_spot (hcell 0 (by omega))
      subst hspot
      refine ⟨ab, ao, rfl, ?_⟩
      rw [Addr.add_mid] at hcj
      rw [hcj]
      have hb := range_u8 hwz j
      rw [← List.getD_eq_getElem?_getD] at hb
      obtain ⟨z, hz0⟩ : ∃ z, z = zs.getD j 0 := ⟨_, rfl⟩
      rw [← hz0] at hb ⊢
      rw [List.getElem?_map, List.getElem?_take, if_pos hjl] at hj
      have e : zs[j]? = some (zs.getD j 0) := by simp [List.getD, List.getElem?_eq_getElem (show j < zs.length by omega)]
      rw [e, ← hz0] at hj
      have hx2 : x = UInt8.ofNat z.toNat := by simpa using hj.symm
      rw [hx2]
      congr 2
      simp only [UInt8.toNat_ofNat']
      omega
    · simp; omega
theorem open_keys {W : World} {base b0 : Nat} {sp : Nat → Bool} {held : Bool} {v : Value} {d : DataW H} {ps : List MemPlace}
    (hok : Value.okWide Try.prog W .any b0 38 v) (h : DataW.Trod enc Try.prog W base sp held 38 v d ps) : ∃ A c l, v = .slice A (List.length l) c ∧ KA W A l ∧ l.length ≤ maxLen := by
  obtain ⟨a1, len, cap, rfl⟩ := okWide_slice Try.underlying38 hok
  obtain ⟨fuel, hf⟩ := h
  rcases Go.Deep.open_slice Try.underlying38 hf with ⟨hcs, hx⟩ | ⟨a, len', cap', m, n, D, Pl, hcs, _, hl, hm, hmm, hx, hat⟩
  · simp [Value.cells] at hcs
    obtain ⟨rfl, rfl, rfl⟩ := hcs
    exact ⟨none, 0, [], rfl, KA.empty _ _, Nat.zero_le _⟩
  · simp [Value.cells] at hcs
    obtain ⟨rfl, rfl, rfl⟩ := hcs
    rw [cells24] at hat
    have hlm : len ≤ m := by rw [hmm]; split <;> omega
    have each : ∀ j, j < len → ∃ k : K, ∀ c, c < 32 → W.cell? ((a.add (j * 32)).add c) = some (.int .u8 (k.f c)) := fun j hj => by
      obtain ⟨cs', h1, h2⟩ := hat j (by omega)
      obtain ⟨_, h3, h4⟩ := World.cells?_some h1
      obtain ⟨k, rfl, _⟩ := key_of_trod h3 h2
      refine ⟨k, fun c hc => ?_⟩
      rw [h4 c hc, Array.getElem?_toList]
      exact kc_at k.f c hc
    refine ⟨some a, cap, (List.range len).map fun j => if h : j < len then Classical.choose (each j h) else kzero, by simp, fun j x hj => ?_, by simp; omega⟩
    have hjl : j < len := by
      have := (List.getElem?_eq_some_iff.1 hj).1
      simpa using this
    rw [List.getElem?_map, List.getElem?_range hjl, Option.map_some, dif_pos hjl] at hj
    have hx2 : Classical.choose (each j hjl) = x := by simpa using hj
    have hk := Classical.choose_spec (each j hjl)
    rw [hx2] at hk
    have h0 := Classical.choose_spec (each 0 (by omega)) 0 (by decide)
    obtain ⟨ab, ao, spot⟩ := a
    have hspot : spot = none := by simpa [Addr.add] using World.cell?_spot h0
    subst hspot
    refine ⟨ab, ao, rfl, fun c v hv => ?_⟩
    have hc : c < 32 := by
      rcases Nat.lt_or_ge c 32 with h | h
      · exact h
      · rw [List.getElem?_eq_none (by rw [kc_len]; exact h)] at hv; cases hv
    have := hk c hc
    rw [Addr.add_mid, Addr.add_mid] at this
    rw [this, ← hv, Array.getElem?_toList, kc_at _ _ hc]
end Go.Proofs.Ythpbfmjogecbmaa
