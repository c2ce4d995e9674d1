/- Several texts in one: Ub Ul Ue. -/
import Derived.Test.YtbkokcfmndiedaaGreatDoorGn
import Derived.ProofKit
import Derived.OpenShut
import Derived.Deep.Slices
import Derived.Deep.Fields
import Derived.Deep.MidRow
import Derived.Carry
import Derived.ChangeSlices
import Derived.ChangeSame
import Derived.ChangeVars
import Derived.ChangeMaps5
import Derived.JoinedOf
import Derived.LaidLaws
import Derived.LaidHandle
import Derived.Lib.SmallJoins
import Derived.Lib.LaidTab
import Derived.Stop.Joined
import Derived.Stop.LaidErr
import Derived.Test.YtbkokcfmndiedaaGreatDoorEt
import Derived.Test.YtbkokcfmndiedaaGreatDoorM4
/- Arguments opened: a slice of bytes, an array of bytes. -/
namespace Go.Proofs.YtbkokcfmndiedaaGreatDoor
open Go.ChangeShapes Go.WideShapes Go.ChangeAt Go.RowKit Go.Joins Go.Deep
variable {H : Type} {enc : TypeId × Value → H}

set_option maxRecDepth 100000 in
theorem cellsB : Tryz.prog.cellsOf 5 = 1 := by kernel_rfl
set_option maxRecDepth 100000 in
theorem laidOut : laidOutB Tryz.prog = true := by decide +kernel
set_option maxRecDepth 100000 in
theorem own : ownKnob Tryz.prog.godebug = none := by kernel_rfl
set_option maxRecDepth 100000 in
theorem open_bytes {W : World} {base b0 : Nat} {sp : Nat → Bool} {held : Bool} {v : Value} {d : DataW H} {ps : List MemPlace}
    (hok : Value.okWide Tryz.prog W .any b0 38 v) (h : DataW.Trod enc Tryz.prog W base sp held 38 v d ps) : ∃ A c l, v = .slice A (List.length l) c ∧ BA W A l ∧ l.length ≤ c ∧ l.length ≤ maxLen := by
  obtain ⟨a1, len, cap, rfl⟩ := okWide_slice Tryz.underlying38 hok
  obtain ⟨fuel, hf⟩ := h
  rcases open_ints Tryz.underlying38 Tryz.underlying5 cellsB hf with ⟨hcs, hx⟩ | ⟨a, len', cap', zs, hcs, _, hl, hm, hz, hx, hcell, hwz⟩
  · simp [Value.cells] at hcs
    obtain ⟨rfl, rfl, rfl⟩ := hcs
    exact ⟨none, 0, [], rfl, BA_nil _ _, Nat.le_refl _, Nat.zero_le _⟩
  · simp [Value.cells] at hcs
    obtain ⟨rfl, rfl, rfl⟩ := hcs
    have hz2 : len ≤ zs.length := by rw [hz]; split <;> omega
    refine ⟨some a, cap, (zs.take len).map fun n => UInt8.ofNat n.toNat, ?_, fun j x hj => ?_, ?_, ?_⟩
    · simp; omega
    · have hjl : j < len := by
        have := (List.getElem?_eq_some_iff.1 hj).1
        simp at this
        omega
      have hcj := hcell j (by omega)
      obtain ⟨ab, ao, spot⟩ := a
      have hspot : spot = none := by simpa [Addr.add] using World.cell?_spot (hcell 0 (by omega))
      subst hspot
      refine ⟨ab, ao, rfl, ?_⟩
      rw [Addr.add_mid] at hcj
      rw [hcj]
      have hb := range_u8 hwz j
      rw [← List.getD_eq_getElem?_getD] at hb
      obtain ⟨z, hz0⟩ : ∃ z, z = zs.getD j 0 := ⟨_, rfl⟩
      rw [← hz0] at hb ⊢
      rw [List.getElem?_map, List.getElem?_take, if_pos hjl] at hj
      have e : zs[j]? = some (zs.getD j 0) := by simp [List.getD, List.getElem?_eq_getElem (show j < zs.length by omega)]
      rw [e, ← hz0] at hj
      have hx2 : x = UInt8.ofNat z.toNat := by simpa using hj.symm
      rw [hx2]
      congr 2
      simp only [UInt8.toNat_ofNat']
      omega
    · simp; omega
    · simp; omega
set_option maxRecDepth 100000 in
/-- An array of bytes, read as data. -/
theorem arr_of_trod {t : TypeId} {n : Nat} {w : World} {base : Nat} {sp : Nat → Bool} {held : Bool} {fuel : Nat} {cs : List Value} {y : DataW H × List MemPlace} (hu : Tryz.prog.underlying t = some (.array n 5)) (hl : cs.length = n)
    (hf : DataW.trod enc Tryz.prog w base sp held fuel t cs = some y) : ∃ l : List UInt8, l.length = n ∧ cs = l.map bv := by
  obtain ⟨xs, m, rfl, hx, _, hlen, hat⟩ := DataW.trod_array hu hf
  rw [cellsB] at hat
  have each : ∀ i, i < n → ∃ k : UInt8, cs[i]? = some (bv k) := fun i hi => by
    have h1 := hat i hi
    rw [Nat.mul_one] at h1
    have hg : cs[i]? = some cs[i] := List.getElem?_eq_getElem (by omega)
    have hd : (cs.drop i).take 1 = [cs[i]] := by
      rw [List.drop_eq_getElem_cons (by omega)]; rfl
    obtain ⟨y, hy⟩ : ∃ y, xs[i]? = some y := ⟨_, List.getElem?_eq_getElem (by omega)⟩
    rw [hd, hy] at h1
    obtain ⟨k, e, rfl, wf⟩ := DataW.trod_int Tryz.underlying5 h1
    have hb := bounds_u8 wf
    refine ⟨UInt8.ofNat k.toNat, ?_⟩
    rw [hg]
    have : cs[i] = .int .u8 k := by simpa using e
    rw [this, bv]
    congr 2
    rw [UInt8.toNat_ofNat']
    omega
  obtain ⟨f, hf2⟩ := choose_lt each
  refine ⟨(List.range n).map f, by simp, ?_⟩
  apply List.ext_getElem?
  intro i
  rcases Nat.lt_or_ge i n with h | h
  · rw [hf2 i h, List.getElem?_map, List.getElem?_map, List.getElem?_range h]; rfl
  · rw [List.getElem?_eq_none (by omega), List.getElem?_eq_none (by simp; omega)]
set_option maxRecDepth 100000 in
theorem open_arr {t : TypeId} {n : Nat} {w W : World} {base b0 : Nat} {sp : Nat → Bool} {held : Bool} {v : Value} {d : DataW H} {ps : List MemPlace} (hu : Tryz.prog.underlying t = some (.array n 5)) (hc : Tryz.prog.cellsOf t = n)
    (hok : Value.okWide Tryz.prog W .any b0 t v) (h : DataW.Trod enc Tryz.prog w base sp held t v d ps) : ∃ l : List UInt8, l.length = n ∧ v = .agg (bA l) := by
  obtain ⟨cs, rfl, hsz, _⟩ : ∃ cs, v = .agg cs ∧ cs.size = Tryz.prog.cellsOf t ∧ Row.okWide Tryz.prog W .any b0 t cs := by
    simpa [Value.okWide, hu] using hok
  rw [hc] at hsz
  obtain ⟨fuel, hf⟩ := h
  obtain ⟨l, h0, h1⟩ := arr_of_trod hu (by rw [show (Value.agg cs).cells.toList = cs.toList from rfl, Array.length_toList, hsz]) hf
  refine ⟨l, h0, ?_⟩
  have h3 : cs.toList = (bA l).toList := h1.trans (by simp [bA])
  rw [Array.toList_inj.1 h3]
set_option maxRecDepth 100000 in
theorem BA_of {W : World} {A : Option Addr} {L C : Nat} {Z : List Int} (hL : L ≤ C) (hn : A = none → C = 0) (hw : ∀ n ∈ Z, (Lit.int .u8 n).wf = true)
    (hc : ∀ a', A = some a' → ∀ c, c < C → W.cell? (a'.add c) = some (.int .u8 (Z.getD c 0))) : BA W A ((List.range L).map fun c => UInt8.ofNat (Z.getD c 0).toNat) := fun j x hj => by
  have hjl : j < L := by
    have := (List.getElem?_eq_some_iff.1 hj).1
    simpa using this
  cases A with
  | none => have := hn rfl; omega
  | some a =>
    have hcj := hc a rfl j (by omega)
    have hspot : a.spot = none := by simpa [Addr.add] using World.cell?_spot (hc a rfl 0 (by omega))
    obtain ⟨ab, ao, spot⟩ := a
    obtain rfl : spot = none := hspot
    refine ⟨ab, ao, rfl, ?_⟩
    rw [Addr.add_mid] at hcj
    rw [hcj]
    have hb := range_u8 hw j
    rw [← List.getD_eq_getElem?_getD] at hb
    rw [List.getElem?_map, List.getElem?_range hjl, Option.map_some] at hj
    obtain ⟨z, hz0⟩ : ∃ z, z = Z.getD j 0 := ⟨_, rfl⟩
    rw [← hz0] at hb hj ⊢
    have hx2 : x = UInt8.ofNat z.toNat := by simpa using hj.symm
    rw [hx2]
    congr 2
    rw [UInt8.toNat_ofNat']
    omega
end Go.Proofs.YtbkokcfmndiedaaGreatDoor

/- Arguments opened: a leaf, two leaves, a key, a digest. -/
namespace Go.Proofs.YtbkokcfmndiedaaGreatDoor
open Go.ChangeShapes Go.WideShapes Go.ChangeAt Go.RowKit Go.Joins Go.Deep
variable {H : Type} {enc : TypeId × Value → H}

set_option maxRecDepth 100000 in
theorem cellsD : Tryz.prog.cellsOf 31 = 32 := by kernel_rfl
set_option maxRecDepth 100000 in
theorem cellsKey : Tryz.prog.cellsOf 24 = 32 := by kernel_rfl
set_option maxRecDepth 100000 in
theorem cellsLeaf : Tryz.prog.cellsOf 33 = 64 := by kernel_rfl
set_option maxRecDepth 100000 in
theorem leaf_of_trod {w : World} {base : Nat} {sp : Nat → Bool} {held : Bool} {fuel : Nat} {cs : List Value} {y : DataW H × List MemPlace} (hl : cs.length = 64)
    (hf : DataW.trod enc Tryz.prog w base sp held fuel 33 cs = some y) : ∃ k d : List UInt8, k.length = 32 ∧ d.length = 32 ∧ cs = (k ++ d).map bv := by
  obtain ⟨y0, y1, n, _, _, h0, h1⟩ := trod_struct2 Tryz.underlying33 hf
  have h0' : DataW.trod enc Tryz.prog w base sp held n 24 ((cs.drop 0).take (Tryz.prog.cellsOf 24)) = some y0 := h0
  have h1' : DataW.trod enc Tryz.prog w base sp held n 31 ((cs.drop 32).take (Tryz.prog.cellsOf 31)) = some y1 := h1
  rw [cellsKey] at h0'
  rw [cellsD] at h1'
  obtain ⟨k, hk, e0⟩ := arr_of_trod Tryz.underlying24 (by simp [hl]) h0'
  obtain ⟨d, hd, e1⟩ := arr_of_trod Tryz.underlying31 (by simp [hl]) h1'
  refine ⟨k, d, hk, hd, ?_⟩
  rw [List.map_append, ← e0, ← e1, List.drop_zero, List.take_of_length_le (l := cs.drop 32) (by simp [hl]), List.take_append_drop]
set_option maxRecDepth 100000 in
theorem open_leaf {w W : World} {base b0 : Nat} {sp : Nat → Bool} {held : Bool} {v : Value} {d : DataW H} {ps : List MemPlace}
    (hok : Value.okWide Tryz.prog W .any b0 33 v) (h : DataW.Trod enc Tryz.prog w base sp held 33 v d ps) : ∃ k g : List UInt8, k.length = 32 ∧ g.length = 32 ∧ v = .agg (bA (k ++ g)) := by
  obtain ⟨cs, rfl, hsz, _⟩ : ∃ cs, v = .agg cs ∧ cs.size = Tryz.prog.cellsOf 33 ∧ Row.okWide Tryz.prog W .any b0 33 cs := by
    simpa [Value.okWide, Tryz.underlying33] using hok
  rw [cellsLeaf] at hsz
  obtain ⟨fuel, hf⟩ := h
  obtain ⟨k, g, hk, hg, h1⟩ := leaf_of_trod (by rw [show (Value.agg cs).cells.toList = cs.toList from rfl, Array.length_toList, hsz]) hf
  refine ⟨k, g, hk, hg, ?_⟩
  have h3 : cs.toList = (bA (k ++ g)).toList := h1.trans (by simp [bA])
  rw [Array.toList_inj.1 h3]
end Go.Proofs.YtbkokcfmndiedaaGreatDoor

/- Arguments opened: an entry, a slice of entries. -/
namespace Go.Proofs.YtbkokcfmndiedaaGreatDoor
open Go.ChangeShapes Go.WideShapes Go.ChangeAt Go.RowKit Go.Joins Go.Deep
variable {H : Type} {enc : TypeId × Value → H}

set_option maxRecDepth 100000 in
theorem cellsBs : Tryz.prog.cellsOf 38 = 1 := by kernel_rfl
set_option maxRecDepth 100000 in
theorem cellsEnt : Tryz.prog.cellsOf 63 = 33 := by kernel_rfl
set_option maxRecDepth 100000 in
/-- A slice of bytes, read as data. -/
theorem bytes_of_trod {W : World} {base : Nat} {sp : Nat → Bool} {held : Bool} {fuel : Nat} {cs : List Value} {y : DataW H × List MemPlace} (_hl : cs.length = 1)
    (hf : DataW.trod enc Tryz.prog W base sp held fuel 38 cs = some y) : ∃ A c l, cs = [.slice A (List.length l) c] ∧ BA W A l ∧ l.length ≤ c ∧ l.length ≤ maxLen := by
  rcases open_ints Tryz.underlying38 Tryz.underlying5 cellsB hf with ⟨hcs, hx⟩ | ⟨a, len, cap, zs, hcs, _, hl, hm, hz, hx, hcell, hwz⟩
  · exact ⟨none, 0, [], hcs, BA_nil _ _, Nat.le_refl _, Nat.zero_le _⟩
  · have hz2 : len ≤ zs.length := by rw [hz]; split <;> omega
    refine ⟨some a, cap, (zs.take len).map fun n => UInt8.ofNat n.toNat, ?_, fun j x hj => ?_, ?_, ?_⟩
    · rw [hcs]; simp; omega
    · have hjl : j < len := by
        have := (List.getElem?_eq_some_iff.1 hj).1
        simp at this
        omega
      have hcj := hcell j (by omega)
      obtain ⟨ab, ao, spot⟩ := a
      have hspot : spot = none := by simpa [Addr.add] using World.cell?_spot (hcell 0 (by omega))
      subst hspot
      refine ⟨ab, ao, rfl, ?_⟩
      rw [Addr.add_mid] at hcj
      rw [hcj]
      have hb := range_u8 hwz j
      rw [← List.getD_eq_getElem?_getD] at hb
      obtain ⟨z, hz0⟩ : ∃ z, z = zs.getD j 0 := ⟨_, rfl⟩
      rw [← hz0] at hb ⊢
      rw [List.getElem?_map, List.getElem?_take, if_pos hjl] at hj
      have e : zs[j]? = some (zs.getD j 0) := by simp [List.getD, List.getElem?_eq_getElem (show j < zs.length by omega)]
      rw [e, ← hz0] at hj
      have hx2 : x = UInt8.ofNat z.toNat := by simpa using hj.symm
      rw [hx2]
      congr 2
      simp only [UInt8.toNat_ofNat']
      omega
    · simp; omega
    · simp; omega
set_option maxRecDepth 100000 in
theorem ent_of_trod {W : World} {base : Nat} {sp : Nat → Bool} {held : Bool} {fuel : Nat} {cs : List Value} {y : DataW H × List MemPlace} (hl : cs.length = 33)
    (hf : DataW.trod enc Tryz.prog W base sp held fuel 63 cs = some y) : ∃ e : En, EnOk W e ∧ cs = enC e ∧ e.v.length ≤ maxLen := by
  obtain ⟨y0, y1, n, _, _, h0, h1⟩ := trod_struct2 Tryz.underlying63 hf
  have h0' : DataW.trod enc Tryz.prog W base sp held n 24 ((cs.drop 0).take (Tryz.prog.cellsOf 24)) = some y0 := h0
  have h1' : DataW.trod enc Tryz.prog W base sp held n 38 ((cs.drop 32).take (Tryz.prog.cellsOf 38)) = some y1 := h1
  rw [cellsKey] at h0'
  rw [cellsBs] at h1'
  obtain ⟨k, hk, e0⟩ := arr_of_trod Tryz.underlying24 (by simp [hl]) h0'
  obtain ⟨A, c, l, e1, hA, hc, hm⟩ := bytes_of_trod (by simp [hl]) h1'
  refine ⟨⟨k, A, l, c⟩, ⟨hk, hc, hA⟩, ?_, hm⟩
  show cs = k.map bv ++ [.slice A l.length c]
  rw [← e0, ← e1, List.drop_zero, List.take_of_length_le (l := cs.drop 32) (by simp [hl]), List.take_append_drop]
set_option maxRecDepth 100000 in
theorem open_entry {W : World} {base b0 : Nat} {sp : Nat → Bool} {held : Bool} {v : Value} {d : DataW H} {ps : List MemPlace}
    (hok : Value.okWide Tryz.prog W .any b0 63 v) (h : DataW.Trod enc Tryz.prog W base sp held 63 v d ps) : ∃ e : En, EnOk W e ∧ v = .agg (enC e).toArray ∧ e.v.length ≤ maxLen := by
  obtain ⟨cs, rfl, hsz, _⟩ : ∃ cs, v = .agg cs ∧ cs.size = Tryz.prog.cellsOf 63 ∧ Row.okWide Tryz.prog W .any b0 63 cs := by
    simpa [Value.okWide, Tryz.underlying63] using hok
  rw [cellsEnt] at hsz
  obtain ⟨fuel, hf⟩ := h
  obtain ⟨e, he, h1, hm⟩ := ent_of_trod (by rw [show (Value.agg cs).cells.toList = cs.toList from rfl, Array.length_toList, hsz]) hf
  refine ⟨e, he, ?_, hm⟩
  have h3 : cs.toList = (enC e).toArray.toList := h1
  rw [Array.toList_inj.1 h3]
set_option maxRecDepth 100000 in
theorem open_entries {W : World} {base b0 : Nat} {sp : Nat → Bool} {held : Bool} {v : Value} {d : DataW H} {ps : List MemPlace}
    (hok : Value.okWide Tryz.prog W .any b0 22 v) (h : DataW.Trod enc Tryz.prog W base sp held 22 v d ps) :
    ∃ A c es, v = .slice A (List.length es) c ∧ EA W A es ∧ es.length ≤ c ∧ es.length ≤ maxLen := by
  obtain ⟨a1, len, cap, rfl⟩ := okWide_slice Tryz.underlying22 hok
  obtain ⟨fuel, hf⟩ := h
  rcases Go.Deep.open_slice Tryz.underlying22 hf with ⟨hcs, hx⟩ | ⟨a, len', cap', m, n, D, Pl, hcs, _, hl, hm, hmm, hx, hat⟩
  · simp [Value.cells] at hcs
    obtain ⟨rfl, rfl, rfl⟩ := hcs
    exact ⟨none, 0, [], rfl, fun j s hj => by simp at hj, Nat.le_refl _, Nat.zero_le _⟩
  · simp [Value.cells] at hcs
    obtain ⟨rfl, rfl, rfl⟩ := hcs
    rw [cellsEnt] at hat
    have hlm : len ≤ m := by rw [hmm]; split <;> omega
    have each : ∀ j, j < len → ∃ e : En, EnOk W e ∧ ∀ i v, (enC e)[i]? = some v → W.cell? ((a.add (j * 33)).add i) = some v := fun j hj => by
      obtain ⟨cs', h1, h2⟩ := hat j (by omega)
      obtain ⟨_, h3, h4⟩ := World.cells?_some h1
      obtain ⟨e, he, rfl, _⟩ := ent_of_trod h3 h2
      refine ⟨e, he, fun i v hv => ?_⟩
      have hi : i < (enC e).length := (List.getElem?_eq_some_iff.1 hv).1
      rw [h4 i (by omega)]
      exact hv
    obtain ⟨f, hf2⟩ : ∃ f : Nat → En, ∀ j, j < len → EnOk W (f j) ∧ ∀ i v, (enC (f j))[i]? = some v → W.cell? ((a.add (j * 33)).add i) = some v := choose_lt each
    refine ⟨some a, cap, (List.range len).map f, by simp, fun j x hj => ?_, by simp; omega, by simp; omega⟩
    have hjl : j < len := by
      have := (List.getElem?_eq_some_iff.1 hj).1
      simpa using this
    rw [List.getElem?_map, List.getElem?_range hjl, Option.map_some] at hj
    have hx2 : f j = x := by simpa using hj
    subst hx2
    obtain ⟨h1, h2⟩ := hf2 j hjl
    have h0k : ∃ v, (enC (f 0))[0]? = some v := ⟨_, List.getElem?_eq_getElem (by rw [enC_len (hf2 0 (by omega)).1.key]; decide)⟩
    obtain ⟨v0, hv0⟩ := h0k
    have hz := (hf2 0 (by omega)).2 0 v0 hv0
    obtain ⟨ab, ao, spot⟩ := a
    have hspot : spot = none := by simpa [Addr.add] using World.cell?_spot hz
    subst hspot
    refine ⟨h1, ab, ao, rfl, fun i v hv => ?_⟩
    have := h2 i v hv
    rw [Addr.add_mid, Addr.add_mid] at this
    exact this
end Go.Proofs.YtbkokcfmndiedaaGreatDoor
