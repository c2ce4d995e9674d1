/- The contract of slices.SortFunc at a row of keys, by bits.Compare. -/
import Derived.Test.YthpbfmjogecbmaaF
import Derived.Test.YthpbfmjogecbmaaL
import Derived.Shelf.SlSortCmp.WholeK
import Derived.Shelf.SlSortCmp.NoneTotal
namespace Go.Proofs.Ythpbfmjogecbmaa
open Go.RowKit

def encK (k : K) : List Value := (kc k.f).toList
theorem encK_len (k : K) : (encK k).length = 32 := kc_len k.f
theorem encK_at (k : K) (c : Nat) (h : c < 32) : (encK k)[c]! = .int .u8 (k.f c) := by
  have := kc_at k.f c h
  rw [← Array.getElem?_toList] at this
  show (kc k.f).toList[c]! = _
  rw [List.getElem!_eq_getElem?_getD, this]
  rfl
def cfK (a b : K) : Int := cmp a.f b.f
theorem cfK_lt (a b : K) : ltOf cfK a b = decide (a.n < b.n) := by
  unfold ltOf cfK
  by_cases h : a.n < b.n
  · rw [decide_eq_true h]; exact decide_eq_true (K.cmp_lt.2 h)
  · rw [decide_eq_false h]; exact decide_eq_false fun hh => h (K.cmp_lt.1 hh)
theorem swoK : Sort.SWO (ltOf cfK) where
  irrefl x := by rw [cfK_lt]; simp
  trans x y z h1 h2 := by rw [cfK_lt] at *; simp at *; omega
  ntrans x y z h1 h2 := by rw [cfK_lt] at *; simp at *; omega
theorem cmpLaysK (blk off size : Nat) (w : World) : CmpLays Try.prog 28 #[] encK 32 cfK blk off size w := fun _ _ _ _ x y =>
  (compare_g x.f y.f x.byt y.byt _).mono fun _ _ ⟨he, q, os, h⟩ => ⟨he, q, os, h⟩

theorem Row.holds {w : World} {B g : Nat} {l : List K} (h : Row w B (some ⟨g, 0, none⟩) l) (hl : l ≠ []) : Sort.HoldsK encK 32 w g 0 l.toArray := by
  obtain ⟨g', e, _, ht⟩ := h.own hl
  simp only [Option.some.injEq, Addr.mk.injEq] at e
  obtain ⟨rfl, _⟩ := e
  intro j hj
  have hj' : j < l.length * 32 := by simpa using hj
  refine ⟨?_, (ht j hj').2⟩
  obtain ⟨k, hk⟩ := get_some (show j / 32 < l.length by omega)
  obtain ⟨b, o, e, hc⟩ := h.ka _ k hk
  simp only [Option.some.injEq, Addr.mk.injEq] at e
  obtain ⟨rfl, rfl, _⟩ := e
  rw [Sort.get_flatK _ _ _ _ (by simpa using hj')]
  have e1 : l.toArray[j / 32]! = k := by
    obtain ⟨h1, h2⟩ := List.getElem?_eq_some_iff.1 hk
    rw [getElem!_pos _ _ (by simpa using h1)]
    simpa using h2
  rw [e1, encK_at _ _ (by omega)]
  have := hc.at_ (j := j % 32) (by omega)
  rw [show 0 + j / 32 * 32 + j % 32 = 0 + j by omega] at this
  exact this
theorem row_of_holds {w : World} {B g : Nat} {d : Array K} (h : Sort.HoldsK encK 32 w g 0 d) (hg : B ≤ g) : Row w B (some ⟨g, 0, none⟩) d.toList := by
  refine ⟨fun j k hk => ⟨g, 0, rfl, fun c v hv => ?_⟩, fun _ => ⟨g, rfl, hg, fun j hj => ?_⟩⟩
  · have hc : c < 32 := by
      rcases Nat.lt_or_ge c 32 with h | h
      · exact h
      · rw [List.getElem?_eq_none (by rw [kc_len]; exact h)] at hv; cases hv
    obtain ⟨hj, hk'⟩ := List.getElem?_eq_some_iff.1 hk
    have hj' : j < d.size := by simpa using hj
    have hlt : j * 32 + c < d.size * 32 := by omega
    have h1 := (h (j * 32 + c) (by simpa using hlt)).1
    rw [Sort.get_flatK _ _ _ _ hlt, show (j * 32 + c) / 32 = j by omega, show (j * 32 + c) % 32 = c by omega, getElem!_pos d j hj', show d[j] = k by simpa using hk', encK_at _ _ hc] at h1
    rw [Array.getElem?_toList, kc_at _ _ hc] at hv
    rw [Nat.add_assoc, h1]
    exact hv
  · have hj' : j < d.size * 32 := by simpa using hj
    have := h j (by simpa using hj')
    exact ⟨by rw [this.1]; rfl, this.2⟩
theorem below_sortWorld {w : World} {g n : Nat} {d : Array K} {os : Array Obj} {B : Nat} (hg : B ≤ g) (hB : B ≤ w.heap.size) : Below B w (sortWorldK encK 32 w g 0 n d os) := by
  refine ⟨rfl, rfl, rfl, by simp [sortWorldK, Sort.grow, Sort.putRowK, Sort.putRow, Sort.mapBlock, Sort.ahead], fun k hk => ?_⟩
  show ((Sort.putRowK encK 32 (Sort.ahead w n) g 0 d).heap ++ os)[k]? = _
  rw [Array.getElem?_append_left (by simp [Sort.putRowK, Sort.putRow, Sort.mapBlock, Sort.ahead]; omega)]
  simp [Sort.putRowK, Sort.putRow, Sort.mapBlock, Sort.ahead, Array.getElem?_modify, show g ≠ k by omega]

theorem sortFunc_c (A : Option Addr) (c : Nat) (l : List K) (B : Nat) (w : World) (hR : Row w B A l) (hB : B ≤ w.heap.size) (hl : l.length ≤ 4398046511103) :
    Calls Try.prog 30 #[.slice A l.length c, .func (.func 28) #[] #[]] w fun e w' => e = .returned (.tuple #[]) ∧ ∃ m : List K, m.length = l.length ∧ (∀ z, z ∈ m ↔ z ∈ l) ∧ m.Pairwise (fun a b => a.n ≤ b.n) ∧ Row w' B A m ∧ Below B w w' := by
  by_cases hne : l = []
  · subst hne
    have := AnyF.slices_SortFunc_none lsort A c (.func (.func 28) #[] #[]) w
    change Calls Try.prog 30 _ _ _ at this
    exact this.mono fun _ _ ⟨he, hw⟩ => ⟨he, [], rfl, fun _ => Iff.rfl, List.Pairwise.nil, by rw [hw]; exact hR, by rw [hw]; exact Below.refl _ _⟩
  · obtain ⟨g, rfl, hg, ht⟩ := hR.own hne
    have hpos : 0 < l.length := List.length_pos_iff.2 hne
    have eg : ∀ args w, (callFunc 28 args).run Try.prog w = .ok (.enter 28 args) w := enters_of Try.func28 (by kernel_rfl) rfl
    have hH := hR.holds hne
    have hlt : g < w.heap.size := by
      obtain ⟨u, hu⟩ := Option.isSome_iff_exists.1 (ht 0 (by omega)).1
      exact World.block_lt_of_cell? _ _ hu
    have := AnyQ.slices_SortFunc lsort 32 Try.isAgg24 Try.sizeOf24 encK encK_len (fun x v hv => (Array.all_eq_true_iff_forall_mem.1 (oneCell_key x.f)) v (by simpa [encK] using hv)) cfK swoK 28 #[] g 0 c l.toArray w eg (cmpLaysK g 0 _ w) hH hlt (by simp; omega)
    change Calls Try.prog 30 _ _ _ at this
    simp only [List.size_toArray] at this
    refine this.mono fun _ _ ⟨he, d', n, os, hp, hs, hw⟩ => ⟨he, d'.toList, ?_, ?_, ?_, ?_, ?_⟩
    · simpa using hp.1
    · intro z
      have h3 := hp.2.2
      have e1 : d'.extract 0 l.length = d' := by
        have : l.length = d'.size := by have := hp.1; simp at this; omega
        rw [this]; simp
      have e2 : l.toArray.extract 0 l.length = l.toArray := by
        have : l.length = l.toArray.size := by simp
        rw [this]; simp
      rw [e1, e2] at h3
      simpa using h3.mem_iff (a := z)
    · have hsz : d'.size = l.length := by have := hp.1; simpa using this
      rw [List.pairwise_iff_getElem]
      intro i j hi hj hij
      have h4 := hs i j (Nat.zero_le _) hij (by simp at hj; omega)
      rw [getElem!_pos _ _ (by simpa using hj), getElem!_pos _ _ (by simpa using hi), cfK_lt] at h4
      simp only [Array.getElem_toList]
      have := of_decide_eq_false h4
      omega
    · rw [hw]
      exact row_of_holds (holdsK_sortWorldK_c encK 32 w g 0 l.toArray d' n os hH hlt (by simpa using hp.1)) hg
    · rw [hw]
      exact below_sortWorld hg hB
end Go.Proofs.Ythpbfmjogecbmaa
