/- Arguments opened: a set of depths, a slice of numbers. -/
import Derived.Test.YtpdmkojclgkcnaaHd
import Derived.ProofKit
import Derived.OpenShut
import Derived.Deep.Slices
import Derived.Deep.MidRow
import Derived.Carry
import Derived.ChangeSlices
import Derived.ChangeSame
import Derived.ChangeVars
import Derived.ChangeMaps5
namespace Go.Proofs.Ytpdmkojclgkcnaa.Bt
open Go.ChangeShapes Go.WideShapes Go.ChangeAt Go.RowKit
variable {H : Type} {enc : TypeId × Value → H}

theorem cellsU8 : Try.prog.cellsOf 5 = 1 := by kernel_rfl
theorem cellsInt : Try.prog.cellsOf 3 = 1 := by kernel_rfl
theorem cellsBm : Try.prog.cellsOf 25 = 32 := by kernel_rfl
theorem laidOut : laidOutB Try.prog = true := by kernel_rfl
theorem own : ownKnob Try.prog.godebug = none := by kernel_rfl
theorem kc_len14 (k : Nat → Nat) : (kc k).toList.length = 32 := by rw [Array.length_toList, kc_size]
theorem set_of_trod {w : World} {base : Nat} {sp : Nat → Bool} {held : Bool} {fuel : Nat} {cs : List Value} {y : DataW H × List MemPlace} (hl : cs.length = 32)
    (hf : DataW.trod enc Try.prog w base sp held fuel 25 cs = some y) : ∃ k : Nat → Nat, Byt k ∧ cs = (kc k).toList := by
  obtain ⟨xs, m, rfl, hx, _, hlen, hat⟩ := DataW.trod_array Try.underlying25 hf
  rw [cellsU8] at hat
  have each : ∀ i, i < 32 → ∃ n : Nat, n < 256 ∧ cs[i]? = some (.int .u8 n) := fun i hi => by
    have h1 := hat i hi
    rw [Nat.mul_one] at h1
    have hg : cs[i]? = some cs[i] := List.getElem?_eq_getElem (by omega)
    have hd : (cs.drop i).take 1 = [cs[i]] := by
      rw [List.drop_eq_getElem_cons (by omega)]; rfl
    have hxi : ∃ y, xs[i]? = some y := ⟨_, List.getElem?_eq_getElem (by omega)⟩
    obtain ⟨y, hy⟩ := hxi
    rw [hd, hy] at h1
    obtain ⟨n, e, rfl, wf⟩ := DataW.trod_int Try.underlying5 h1
    have hb := bounds_u8 wf
    refine ⟨n.toNat, by omega, ?_⟩
    rw [hg]
    have : cs[i] = .int .u8 n := by simpa using e
    rw [this, Int.toNat_of_nonneg hb.1]
  refine ⟨fun i => if h : i < 32 then Classical.choose (each i h) else 0, fun i => ?_, ?_⟩
  · by_cases h : i < 32
    · simp only [dif_pos h]
      exact (Classical.choose_spec (each i h)).1
    · simp only [dif_neg h]
      decide
  · apply List.ext_getElem?
    intro i
    rcases Nat.lt_or_ge i 32 with h | h
    · have hka := kc_at (fun i => if h : i < 32 then Classical.choose (each i h) else 0) i h
      rw [← Array.getElem?_toList] at hka
      rw [hka]
      simp only [dif_pos h]
      exact (Classical.choose_spec (each i h)).2
    · rw [List.getElem?_eq_none (by omega), List.getElem?_eq_none (by rw [kc_len14]; exact h)]
theorem open_set {w W : World} {base b0 : Nat} {sp : Nat → Bool} {held : Bool} {v : Value} {d : DataW H} {ps : List MemPlace}
    (hok : Value.okWide Try.prog W .any b0 25 v) (h : DataW.Trod enc Try.prog w base sp held 25 v d ps) : ∃ k : Nat → Nat, v = .agg (kc k) ∧ Byt k := by
  obtain ⟨cs, rfl, hsz, _⟩ : ∃ cs, v = .agg cs ∧ cs.size = Try.prog.cellsOf 25 ∧ Row.okWide Try.prog W .any b0 25 cs := by
    simpa [Value.okWide, Try.underlying25] using hok
  rw [cellsBm] at hsz
  obtain ⟨fuel, hf⟩ := h
  obtain ⟨k, hk, h1⟩ := set_of_trod (by rw [show (Value.agg cs).cells.toList = cs.toList from rfl, Array.length_toList, hsz]) hf
  refine ⟨k, ?_, hk⟩
  have : cs.toList = (kc k).toList := h1
  rw [Array.toList_inj.1 this]
theorem open_zs {W : World} {base b0 : Nat} {sp : Nat → Bool} {held : Bool} {v : Value} {d : DataW H} {ps : List MemPlace}
    (hok : Value.okWide Try.prog W .any b0 22 v) (h : DataW.Trod enc Try.prog W base sp held 22 v d ps) : ∃ A c l, v = .slice A (List.length l) c ∧ ZA W A l := by
  obtain ⟨a1, len, cap, rfl⟩ := okWide_slice Try.underlying22 hok
  obtain ⟨fuel, hf⟩ := h
  rcases open_ints Try.underlying22 Try.underlying3 cellsInt hf with ⟨hcs, hx⟩ | ⟨a, len', cap', zs, hcs, _, hl, hm, hz, hx, hcell, hwz⟩
  · simp [Value.cells] at hcs
    obtain ⟨rfl, rfl, rfl⟩ := hcs
    exact ⟨none, 0, [], rfl, ZA.empty _ _⟩
  · simp [Value.cells] at hcs
    obtain ⟨rfl, rfl, rfl⟩ := hcs
    have hz2 : len ≤ zs.length := by rw [hz]; split <;> omega
    refine ⟨some a, cap, zs.take len, by simp; omega, fun j x hj => ?_⟩
    have hjl : j < len := by
      have := (List.getElem?_eq_some_iff.1 hj).1
      simp at this
      omega
    have hcj := hcell j (by omega)
    obtain ⟨ab, ao, spot⟩ := a
    have hspot : spot = none := by simpa [Addr.add] using World.cell?_spot (hcell 0 (by omega))
    subst hspot
    refine ⟨ab, ao, rfl, ?_⟩
    rw [Addr.add_mid] at hcj
    rw [hcj]
    rw [List.getElem?_take, if_pos hjl] at hj
    simp [hj]
end Go.Proofs.Ytpdmkojclgkcnaa.Bt
