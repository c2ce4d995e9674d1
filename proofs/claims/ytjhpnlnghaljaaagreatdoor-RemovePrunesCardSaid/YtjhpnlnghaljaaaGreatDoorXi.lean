/- The walk of PutPairs over contracts. -/
import Derived.Test.YtjhpnlnghaljaaaGreatDoorMV
import Derived.Test.YtjhpnlnghaljaaaGreatDoorMT
import Derived.Test.YtjhpnlnghaljaaaGreatDoorMR
namespace Go.Proofs.YtjhpnlnghaljaaaGreatDoor
open Go.RowKit

theorem bsE9_f (f f' : Nat → UInt8) (A A' : Option Addr) (n n' c c' : Nat) (w : World) : bsE w 2 #[(0, .agg (((List.range 32).map f).map bv ++ [Value.slice A n c]).toArray), (1, .agg (((List.range 32).map f').map bv ++ [Value.slice A' n' c']).toArray)] =
    .ok (.value (.slice (some ⟨w.heap.size, 0, none⟩) 2 2)) (w.alloc (.cells ((((List.range 32).map f).map bv ++ [Value.slice A n c]) ++ (((List.range 32).map f').map bv ++ [Value.slice A' n' c'])).toArray 35)) := by kernel_rfl
theorem bsE9_two (x z : En) (hx : x.k.length = 32) (hz : z.k.length = 32) (w : World) : bsE w 2 #[(0, .agg (enC x).toArray), (1, .agg (enC z).toArray)] = .ok (.value (.slice (some ⟨w.heap.size, 0, none⟩) 2 2)) (w.alloc (.cells (enC x ++ enC z).toArray 35)) := by
  have := bsE9_f (fun j => x.k.getD j 0) (fun j => z.k.getD j 0) x.A z.A x.v.length z.v.length x.c z.c w
  rw [← list32 x.k hx, ← list32 z.k hz] at this
  exact this
theorem two_made (w : World) (x z : En) (hx : x.k.length = 32) (t : TypeId) : (w.alloc (.cells (enC x ++ enC z).toArray t)).rangeAt w.heap.size 0 (enC x) ∧ (w.alloc (.cells (enC x ++ enC z).toArray t)).rangeAt w.heap.size 33 (enC z) := by
  refine ⟨fun j v hv => ?_, fun j v hv => ?_⟩
  · rw [Nat.zero_add, cell_of_cells (heap_alloc_new w _), List.getElem?_toArray, List.getElem?_append_left (List.getElem?_eq_some_iff.1 hv).1]
    exact hv
  · rw [cell_of_cells (heap_alloc_new w _), List.getElem?_toArray, List.getElem?_append_right (by rw [enC_len hx]; omega), enC_len hx, show 33 + j - 33 = j by omega]
    exact hv
theorem two_ea (w : World) (x z : En) (hx : EnOk w x) (hz : EnOk w z) (t : TypeId) : EA (w.alloc (.cells (enC x ++ enC z).toArray t)) (some ⟨w.heap.size, 0, none⟩) [x, z] := fun i e hi => by
  have hb : Below w.heap.size w (w.alloc (.cells (enC x ++ enC z).toArray t)) := (Below.refl _ _).alloc (Nat.le_refl _) _
  obtain ⟨h1, h2⟩ := two_made w x z hx.key t
  match i, hi with
  | 0, hi => cases hi; exact ⟨hx.below hb, _, _, rfl, h1⟩
  | 1, hi => cases hi; exact ⟨hz.below hb, _, _, rfl, h2⟩
/-- The map of two entries with different keys. -/
theorem two_perm {x z : En} (h : x.k ≠ z.k) : ((ofE [x, z]).map En.ent).Perm [x.ent, z.ent] := by
  rw [ofE_ent]
  have h1 : (ofK [x.ent, z.ent]).Perm (z.ent :: rmK (putK [] x.ent) z.ent.k) := putK_perm _ _
  refine h1.trans ?_
  have h2 : rmK (putK [] x.ent) z.ent.k = [x.ent] := by
    have : x.ent.k ≠ z.ent.k := h
    simp [putK, rmK, insK, this]
  rw [h2]
  exact List.Perm.swap _ _ _
theorem pair_sep {x z : Ent} {d : Nat} (hx : x.k.length = 32) (hz : z.k.length = 32) (h : x.k ≠ z.k) (hd : d ≤ comK x.k z.k) : Sep (d : Int) [x, z] := by
  have hlt := com_lt hx hz h
  have hb := (com_bits (a := x.k) (b := z.k) (i := d) (by omega)).1 hd
  have key : ∀ i : Nat, (i : Int) < d → i < 256 → Bt.bit (keyF x.k) i = Bt.bit (keyF z.k) i := fun i hi h2 => by
    have h3 := hb i (by omega)
    rw [bitK_in x.k (by omega) (by omega), bitK_in z.k (by omega) (by omega), Int.toNat_natCast] at h3
    exact Int.ofNat.inj h3
  refine ⟨fun a ha => ?_, List.pairwise_cons.2 ⟨fun b hb => ?_, by simp⟩, fun a ha b hb i hi h2 => ?_⟩
  · rcases List.mem_cons.1 ha with rfl | ha
    · exact hx
    · rw [List.mem_singleton.1 ha]; exact hz
  · rw [List.mem_singleton.1 hb]; exact h
  · rcases List.mem_cons.1 ha with rfl | ha2 <;> rcases List.mem_cons.1 hb with rfl | hb2
    · rfl
    · rw [List.mem_singleton.1 hb2]; exact key i hi h2
    · rw [List.mem_singleton.1 ha2]; exact (key i hi h2).symm
    · rw [List.mem_singleton.1 ha2, List.mem_singleton.1 hb2]
/-- The digest of two leaves below depth d is the map's. -/
theorem pair_dig {x z : Ent} {m : List Ent} {d : Nat} (n : Int) (hx : x.k.length = 32) (hz : z.k.length = 32) (h : x.k ≠ z.k) (hd : d ≤ comK x.k z.k) (hp : m.Perm [x, z]) : digT n (growT (257 - d) [x, z] d) = rootK (257 - d) n m d := by
  have hlt := com_lt hx hz h
  have hs := pair_sep hx hz h hd
  have hs2 := hs.perm hp.symm
  rw [← growT_perm (257 - d) m [x, z] d hs2 (.inr ⟨by omega, by omega, by omega⟩) hp]
  exact (grow_both n (257 - d) m d hs2 (.inr ⟨by omega, by omega, by omega⟩)).2
theorem com_sym (a b : List UInt8) : comK a b = comK b a := Bt.common_comm (keyF b) (keyF a)
def dv (C k : Nat) : Nat := if k = 0 then 0 else if k = 1 then C / 2 else C
theorem dv_le (C k : Nat) : dv C k ≤ C := by
  unfold dv
  split
  · omega
  · split <;> omega
end Go.Proofs.YtjhpnlnghaljaaaGreatDoor
