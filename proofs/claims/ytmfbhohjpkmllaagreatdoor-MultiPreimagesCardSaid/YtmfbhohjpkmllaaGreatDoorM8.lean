import Derived.Test.YtmfbhohjpkmllaaGreatDoorTG
import Derived.ProofKit
import Derived.OpenShut
import Derived.Deep.Slices
import Derived.Deep.Fields
import Derived.Deep.MidRow
import Derived.Carry
import Derived.ChangeSlices
import Derived.ChangeSame
import Derived.ChangeVars
import Derived.ChangeMaps5
import Derived.JoinedOf
import Derived.LaidLaws
import Derived.LaidHandle
import Derived.Lib.SmallJoins
import Derived.Lib.LaidTab
import Derived.Stop.Joined
import Derived.Stop.LaidErr
import Derived.Test.YtmfbhohjpkmllaaGreatDoorEt
import Derived.Test.YtmfbhohjpkmllaaGreatDoorM4
namespace Go.Proofs.YtmfbhohjpkmllaaGreatDoor
set_option linter.unusedSimpArgs false
set_option linter.unusedVariables false
set_option maxRecDepth 100000
section
open Go.ChangeShapes Go.WideShapes Go.ChangeAt Go.RowKit Go.Joins Go.Deep
variable {H : Type} {enc : TypeId × Value → H}
theorem cellsB : Tryz.prog.cellsOf 5 = 1 := by kernel_rfl
theorem laidOut : laidOutB Tryz.prog = true := by decide +kernel
theorem own : ownKnob Tryz.prog.godebug = none := by kernel_rfl
theorem arr_of_trod {t : TypeId} {n : Nat} {w : World} {base : Nat} {sp : Nat → Bool} {held : Bool} {fuel : Nat} {cs : List Value} {y : DataW H × List MemPlace} (hu : Tryz.prog.underlying t = some (.array n 5)) (hl : cs.length = n)
  (hf : DataW.trod enc Tryz.prog w base sp held fuel t cs = some y) : ∃ l : List UInt8, l.length = n ∧ cs = l.map bv := by
 obtain ⟨xs, m, rfl, hx, _, hlen, hat⟩ := DataW.trod_array hu hf
 rw [cellsB] at hat
 have each : ∀ i, i < n → ∃ k : UInt8, cs[i]? = some (bv k) := fun i hi => by
  have h1 := hat i hi
  rw [Nat.mul_one] at h1
  have hg : cs[i]? = some cs[i] := List.getElem?_eq_getElem (by omega)
  have hd : (cs.drop i).take 1 = [cs[i]] := by
   rw [List.drop_eq_getElem_cons (by omega)]; rfl
  obtain ⟨y, hy⟩ : ∃ y, xs[i]? = some y := ⟨_, List.getElem?_eq_getElem (by omega)⟩
  rw [hd, hy] at h1
  obtain ⟨k, e, rfl, wf⟩ := DataW.trod_int Tryz.underlying5 h1
  have hb := bounds_u8 wf
  refine ⟨UInt8.ofNat k.toNat, ?_⟩
  rw [hg]
  have : cs[i] = .int .u8 k := by simpa using e
  rw [this, bv]
  congr 2
  rw [UInt8.toNat_ofNat']
  omega
 obtain ⟨f, hf2⟩ := choose_lt each
 refine ⟨(List.range n).map f, by simp, ?_⟩
 apply List.ext_getElem?
 intro i
 rcases Nat.lt_or_ge i n with h | h
 ·rw [hf2 i h, List.getElem?_map, List.getElem?_map, List.getElem?_range h]; rfl
 ·rw [List.getElem?_eq_none (by omega), List.getElem?_eq_none (by simp; omega)]
theorem open_arr {t : TypeId} {n : Nat} {w W : World} {base b0 : Nat} {sp : Nat → Bool} {held : Bool} {v : Value} {d : DataW H} {ps : List MemPlace} (hu : Tryz.prog.underlying t = some (.array n 5)) (hc : Tryz.prog.cellsOf t = n)
  (hok : Value.okWide Tryz.prog W .any b0 t v) (h : DataW.Trod enc Tryz.prog w base sp held t v d ps) : ∃ l : List UInt8, l.length = n ∧ v = .agg (bA l) := by
 obtain ⟨cs, rfl, hsz, _⟩ : ∃ cs, v = .agg cs ∧ cs.size = Tryz.prog.cellsOf t ∧ Row.okWide Tryz.prog W .any b0 t cs := by
  simpa [Value.okWide, hu] using hok
 rw [hc] at hsz
 obtain ⟨fuel, hf⟩ := h
 obtain ⟨l, h0, h1⟩ := arr_of_trod hu (by rw [show (Value.agg cs).cells.toList = cs.toList from rfl, Array.length_toList, hsz]) hf
 refine ⟨l, h0, ?_⟩
 have h3 : cs.toList = (bA l).toList := h1.trans (by simp [bA])
 rw [Array.toList_inj.1 h3]
end
section
open Go.ChangeShapes Go.WideShapes Go.ChangeAt Go.RowKit Go.Joins Go.Deep
variable {H : Type} {enc : TypeId × Value → H}
theorem cellsD : Tryz.prog.cellsOf 45 = 32 := by kernel_rfl
theorem cellsKey : Tryz.prog.cellsOf 39 = 32 := by kernel_rfl
theorem cellsLeaf : Tryz.prog.cellsOf 57 = 64 := by kernel_rfl
theorem leaf_of_trod {w : World} {base : Nat} {sp : Nat → Bool} {held : Bool} {fuel : Nat} {cs : List Value} {y : DataW H × List MemPlace} (hl : cs.length = 64)
  (hf : DataW.trod enc Tryz.prog w base sp held fuel 57 cs = some y) : ∃ k d : List UInt8, k.length = 32 ∧ d.length = 32 ∧ cs = (k ++ d).map bv := by
 obtain ⟨y0, y1, n, _, _, h0, h1⟩ := trod_struct2 Tryz.underlying57 hf
 have h0' : DataW.trod enc Tryz.prog w base sp held n 39 ((cs.drop 0).take (Tryz.prog.cellsOf 39)) = some y0 := h0
 have h1' : DataW.trod enc Tryz.prog w base sp held n 45 ((cs.drop 32).take (Tryz.prog.cellsOf 45)) = some y1 := h1
 rw [cellsKey] at h0'
 rw [cellsD] at h1'
 obtain ⟨k, hk, e0⟩ := arr_of_trod Tryz.underlying39 (by simp [hl]) h0'
 obtain ⟨d, hd, e1⟩ := arr_of_trod Tryz.underlying45 (by simp [hl]) h1'
 refine ⟨k, d, hk, hd, ?_⟩
 rw [List.map_append, ← e0, ← e1, List.drop_zero, List.take_of_length_le (l := cs.drop 32) (by simp [hl]), List.take_append_drop]
end
section
open Go.ChangeShapes Go.WideShapes Go.ChangeAt Go.RowKit Go.Joins Go.Deep
variable {H : Type} {enc : TypeId × Value → H}
theorem cellsBs : Tryz.prog.cellsOf 66 = 1 := by kernel_rfl
theorem cellsEnt : Tryz.prog.cellsOf 80 = 33 := by kernel_rfl
theorem bytes_of_trod {W : World} {base : Nat} {sp : Nat → Bool} {held : Bool} {fuel : Nat} {cs : List Value} {y : DataW H × List MemPlace} (_hl : cs.length = 1)
  (hf : DataW.trod enc Tryz.prog W base sp held fuel 66 cs = some y) : ∃ A c l, cs = [.slice A (List.length l) c] ∧ BA W A l ∧ l.length ≤ c ∧ l.length ≤ maxLen := by
 rcases open_ints Tryz.underlying66 Tryz.underlying5 cellsB hf with ⟨hcs, hx⟩ | ⟨a, len, cap, zs, hcs, _, hl, hm, hz, hx, hcell, hwz⟩
 ·exact ⟨none, 0, [], hcs, BA_nil _ _, Nat.le_refl _, Nat.zero_le _⟩
 ·have hz2 : len ≤ zs.length := by rw [hz]; split <;> omega
  refine ⟨some a, cap, (zs.take len).map fun n => UInt8.ofNat n.toNat, ?_, fun j x hj => ?_, ?_, ?_⟩
  ·rw [hcs]; simp; omega
  ·have hjl : j < len := by
    have := (List.getElem?_eq_some_iff.1 hj).1
    simp at this
    omega
   have hcj := hcell j (by omega)
   obtain ⟨ab, ao, spot⟩ := a
   have hspot : spot = none := by simpa [Addr.add] using World.cell?_spot (hcell 0 (by omega))
   subst hspot
   refine ⟨ab, ao, rfl, ?_⟩
   rw [Addr.add_mid] at hcj
   rw [hcj]
   have hb := range_u8 hwz j
   rw [← List.getD_eq_getElem?_getD] at hb
   obtain ⟨z, hz0⟩ : ∃ z, z = zs.getD j 0 := ⟨_, rfl⟩
   rw [← hz0] at hb ⊢
   rw [List.getElem?_map, List.getElem?_take, if_pos hjl] at hj
   have e : zs[j]? = some (zs.getD j 0) := by simp [List.getD, List.getElem?_eq_getElem (show j < zs.length by omega)]
   rw [e, ← hz0] at hj
   have hx2 : x = UInt8.ofNat z.toNat := by simpa using hj.symm
   rw [hx2]
   congr 2
   simp only [UInt8.toNat_ofNat']
   omega
  ·simp; omega
  ·simp; omega
theorem ent_of_trod {W : World} {base : Nat} {sp : Nat → Bool} {held : Bool} {fuel : Nat} {cs : List Value} {y : DataW H × List MemPlace} (hl : cs.length = 33)
  (hf : DataW.trod enc Tryz.prog W base sp held fuel 80 cs = some y) : ∃ e : En, EnOk W e ∧ cs = enC e ∧ e.v.length ≤ maxLen := by
 obtain ⟨y0, y1, n, _, _, h0, h1⟩ := trod_struct2 Tryz.underlying80 hf
 have h0' : DataW.trod enc Tryz.prog W base sp held n 39 ((cs.drop 0).take (Tryz.prog.cellsOf 39)) = some y0 := h0
 have h1' : DataW.trod enc Tryz.prog W base sp held n 66 ((cs.drop 32).take (Tryz.prog.cellsOf 66)) = some y1 := h1
 rw [cellsKey] at h0'
 rw [cellsBs] at h1'
 obtain ⟨k, hk, e0⟩ := arr_of_trod Tryz.underlying39 (by simp [hl]) h0'
 obtain ⟨A, c, l, e1, hA, hc, hm⟩ := bytes_of_trod (by simp [hl]) h1'
 refine ⟨⟨k, A, l, c⟩, ⟨hk, hc, hA⟩, ?_, hm⟩
 show cs = k.map bv ++ [.slice A l.length c]
 rw [← e0, ← e1, List.drop_zero, List.take_of_length_le (l := cs.drop 32) (by simp [hl]), List.take_append_drop]
theorem open_entries {W : World} {base b0 : Nat} {sp : Nat → Bool} {held : Bool} {v : Value} {d : DataW H} {ps : List MemPlace}
  (hok : Value.okWide Tryz.prog W .any b0 22 v) (h : DataW.Trod enc Tryz.prog W base sp held 22 v d ps) :
  ∃ A c es, v = .slice A (List.length es) c ∧ EA W A es ∧ es.length ≤ c ∧ es.length ≤ maxLen := by
 obtain ⟨a1, len, cap, rfl⟩ := okWide_slice Tryz.underlying22 hok
 obtain ⟨fuel, hf⟩ := h
 rcases Go.Deep.open_slice Tryz.underlying22 hf with ⟨hcs, hx⟩ | ⟨a, len', cap', m, n, D, Pl, hcs, _, hl, hm, hmm, hx, hat⟩
 ·simp [Value.cells] at hcs
  obtain ⟨rfl, rfl, rfl⟩ := hcs
  exact ⟨none, 0, [], rfl, fun j s hj => by simp at hj, Nat.le_refl _, Nat.zero_le _⟩
 ·simp [Value.cells] at hcs
  obtain ⟨rfl, rfl, rfl⟩ := hcs
  rw [cellsEnt] at hat
  have hlm : len ≤ m := by rw [hmm]; split <;> omega
  have each : ∀ j, j < len → ∃ e : En, EnOk W e ∧ ∀ i v, (enC e)[i]? = some v → W.cell? ((a.add (j * 33)).add i) = some v := fun j hj => by
   obtain ⟨cs', h1, h2⟩ := hat j (by omega)
   obtain ⟨_, h3, h4⟩ := World.cells?_some h1
   obtain ⟨e, he, rfl, _⟩ := ent_of_trod h3 h2
   refine ⟨e, he, fun i v hv => ?_⟩
   have hi : i < (enC e).length := (List.getElem?_eq_some_iff.1 hv).1
   rw [h4 i (by omega)]
   exact hv
  obtain ⟨f, hf2⟩ : ∃ f : Nat → En, ∀ j, j < len → EnOk W (f j) ∧ ∀ i v, (enC (f j))[i]? = some v → W.cell? ((a.add (j * 33)).add i) = some v := choose_lt each
  refine ⟨some a, cap, (List.range len).map f, by simp, fun j x hj => ?_, by simp; omega, by simp; omega⟩
  have hjl : j < len := by
   have := (List.getElem?_eq_some_iff.1 hj).1
   simpa using this
  rw [List.getElem?_map, List.getElem?_range hjl, Option.map_some] at hj
  have hx2 : f j = x := by simpa using hj
  subst hx2
  obtain ⟨h1, h2⟩ := hf2 j hjl
  have h0k : ∃ v, (enC (f 0))[0]? = some v := ⟨_, List.getElem?_eq_getElem (by rw [enC_len (hf2 0 (by omega)).1.key]; decide)⟩
  obtain ⟨v0, hv0⟩ := h0k
  have hz := (hf2 0 (by omega)).2 0 v0 hv0
  obtain ⟨ab, ao, spot⟩ := a
  have hspot : spot = none := by simpa [Addr.add] using World.cell?_spot hz
  subst hspot
  refine ⟨h1, ab, ao, rfl, fun i v hv => ?_⟩
  have := h2 i v hv
  rw [Addr.add_mid, Addr.add_mid] at this
  exact this
end
end Go.Proofs.YtmfbhohjpkmllaaGreatDoor
