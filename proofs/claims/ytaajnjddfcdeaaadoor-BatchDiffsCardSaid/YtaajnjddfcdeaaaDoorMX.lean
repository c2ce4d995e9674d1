/- Several texts in one: Ya Za Zb. -/
import Derived.Test.YtaajnjddfcdeaaaDoorMU
import Derived.Test.YtaajnjddfcdeaaaDoorMT
import Derived.Test.YtaajnjddfcdeaaaDoorMQ
/- What the program of layer 10 keeps, as a contract over subtrees of maps; plain facts on keys taken out. -/
namespace Go.Proofs.YtaajnjddfcdeaaaDoor
open Go.RowKit

/-- The key agrees with the map's in the first bits. -/
def AptK (d : Int) (l : List Ent) (k : List UInt8) : Prop := k.length = 32 ∧ ∀ a ∈ l, ∀ i : Nat, (i : Int) < d → i < 256 → Bt.bit (keyF a.k) i = Bt.bit (keyF k) i
/-- A slice of keys. -/
def KS (w : World) (A : Option Addr) (ks : List (List UInt8)) : Prop := ∀ i k, ks[i]? = some k → k.length = 32 ∧ ∃ g o, A = some ⟨g, o, none⟩ ∧ w.rangeAt g (o + i * 32) (k.map bv)
theorem KS.below {w w' : World} {A : Option Addr} {ks : List (List UInt8)} (h : KS w A ks) (hb : Below w.heap.size w w') : KS w' A ks := fun i k hi => by
  obtain ⟨h1, g, o, h2, h3⟩ := h i k hi
  exact ⟨h1, g, o, h2, range_below h3 hb⟩
/-- What the program of layer 10 keeps. -/
structure RmV (M : World → Int → Tv → Prop) : Prop where
end Go.Proofs.YtaajnjddfcdeaaaDoor

/- Plain facts for the program of layer 10: a key taken out one level down, keys kept by a word, subtrees at one address. -/
namespace Go.Proofs.YtaajnjddfcdeaaaDoor
open Go.RowKit

theorem AptK.part {d b : Int} {l : List Ent} {k : List UInt8} (h : AptK d l k) (h0 : 0 ≤ d) (h1 : d < 256) (hb : bitK k d = b) : AptK (d + 1) (partK l d b) k := ⟨h.1, fun a ha i hi h2 => by
  obtain ⟨ha1, ha2⟩ := List.mem_filter.1 ha
  by_cases hd : (i : Int) < d
  · exact h.2 a ha1 i hd h2
  · have e1 := of_decide_eq_true ha2
    rw [← hb, bitK_in _ h0 h1, bitK_in _ h0 h1, show d.toNat = i by omega] at e1
    exact Int.ofNat.inj e1⟩
theorem SubMap.len_le {d : Nat} {l : List Ent} {T : Tv} (h : SubMap d l T) : lenT T.tr ≤ l.length := by
  rw [h.tr]
  exact growT_len _ _ _
/-! ### Keys kept by a word -/
end Go.Proofs.YtaajnjddfcdeaaaDoor

/- Two subtrees in memory at one address are one. -/
namespace Go.Proofs.YtaajnjddfcdeaaaDoor
open Go.RowKit

theorem ptr_inj10 {g g' : Nat} (h : ptr g = ptr g') : g = g' := by cases h; rfl
theorem bv_inj : ∀ {x y : UInt8}, bv x = bv y → x = y := fun {x y} h => by
  have h1 : (Value.int .u8 (x.toNat : Int)) = .int .u8 (y.toNat : Int) := h
  injection h1 with _ h2
  exact UInt8.toNat_inj.1 (Int.ofNat.inj h2)
theorem map_bv_inj : ∀ {l m : List UInt8}, l.map bv = m.map bv → l = m := fun h => (List.map_inj_right fun _ _ h => bv_inj h).1 h
theorem BA.inj {w : World} {A : Option Addr} {l m : List UInt8} (h : BA w A l) (h' : BA w A m) (hl : l.length = m.length) : l = m := by
  refine List.ext_getElem hl fun i h1 h2 => ?_
  obtain ⟨g, o, rfl, e1⟩ := h i _ (List.getElem?_eq_getElem h1)
  obtain ⟨g', o', hA, e2⟩ := h' i _ (List.getElem?_eq_getElem h2)
  cases hA
  rw [e1] at e2
  exact bv_inj (Option.some.inj e2)
theorem NodeAt.inj {w : World} {g : Nat} {d d' : List UInt8} {c c' : Value} (h : NodeAt w g d c) (h' : NodeAt w g d' c') (hd : d.length = 32) (hd' : d'.length = 32) : c = c' := by
  have h1 := h.cell hd
  rw [h'.cell hd'] at h1
  exact (Option.some.inj h1).symm
theorem Mn.same {w : World} {n : Int} : ∀ {S T : Tv}, Mn w n S → Mn w n T → S.val = T.val → S = T
  | .nil, .nil, _, _, _ => rfl
  | .nil, .leaf v e, _, ⟨g, _, _, hv, _⟩, h => by
    have h1 : Value.pointer none = v := h
    rw [hv] at h1; cases h1
  | .nil, .inner v a b, _, ⟨g, hv, _⟩, h => by
    have h1 : Value.pointer none = v := h
    rw [hv] at h1; cases h1
  | .leaf v e, .nil, ⟨g, _, _, hv, _⟩, _, h => by
    have h1 : v = Value.pointer none := h
    rw [hv] at h1; cases h1
  | .inner v a b, .nil, ⟨g, hv, _⟩, _, h => by
    have h1 : v = Value.pointer none := h
    rw [hv] at h1; cases h1
  | .leaf v e, .leaf v' e', ⟨g, A, c, hv, hg, he, _⟩, ⟨g', A', c', hv', hg', he', _⟩, h => by
    have h1 : v = v' := h
    subst h1
    rw [hv] at hv'
    obtain rfl : g = g' := ptr_inj10 hv'
    have h3 := hg.inj hg' (digT_len _ _) (digT_len _ _)
    injection h3 with _ h3
    injection h3 with h3
    unfold flC at h3
    have h4 := congrArg Array.toList h3
    obtain ⟨h5, h6⟩ := List.append_inj' h4 rfl
    have h7 := map_bv_inj h5
    injection h6 with h6 _
    injection h6 with hA hl hc
    subst hA
    have hk : e.k = e'.k := (List.append_inj h7 (by rw [he.key, he'.key])).1
    have hvv : e.v = e'.v := he.val.inj he'.val (by exact_mod_cast hl)
    cases e; cases e'
    simp_all
  | .leaf v e, .inner v' a b, ⟨g, A, c, hv, hg, he, _⟩, ⟨g', hv', hg', _⟩, h => by
    have h1 : v = v' := h
    subst h1
    rw [hv] at hv'
    obtain rfl : g = g' := ptr_inj10 hv'
    have h3 := hg.inj hg' (digT_len _ _) (digT_len _ _)
    injection h3 with h3 _
    exact absurd h3 (by decide)
  | .inner v a b, .leaf v' e, ⟨g, hv, hg, _⟩, ⟨g', A, c, hv', hg', _⟩, h => by
    have h1 : v = v' := h
    subst h1
    rw [hv] at hv'
    obtain rfl : g = g' := ptr_inj10 hv'
    have h3 := hg.inj hg' (digT_len _ _) (digT_len _ _)
    injection h3 with h3 _
    exact absurd h3 (by decide)
  | .inner v a b, .inner v' a' b', ⟨g, hv, hg, ha, hb⟩, ⟨g', hv', hg', ha', hb'⟩, h => by
    have h1 : v = v' := h
    subst h1
    rw [hv] at hv'
    obtain rfl : g = g' := ptr_inj10 hv'
    have h3 := hg.inj hg' (digT_len _ _) (digT_len _ _)
    injection h3 with _ h3
    injection h3 with h3
    unfold inC at h3
    have h4 := congrArg Array.toList h3
    simp only [List.cons.injEq] at h4
    have ea : a = a' := Mn.same ha ha' h4.1
    have eb : b = b' := Mn.same hb hb' h4.2.1
    rw [ea, eb]
end Go.Proofs.YtaajnjddfcdeaaaDoor
