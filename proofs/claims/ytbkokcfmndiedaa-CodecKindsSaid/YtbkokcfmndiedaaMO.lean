/- Several texts in one: Oc Od Oe Of Og Ok. -/
import Derived.Test.YtbkokcfmndiedaaMM
import Derived.Test.YtbkokcfmndiedaaM6
import Derived.Test.YtbkokcfmndiedaaM3
import Derived.Test.YtbkokcfmndiedaaLd
/- The reference of layer 8: End, Sibling, Under; of layer 7: Get, Same. -/
namespace Go.Proofs.Ytbkokcfmndiedaa
open Go.RowKit

/-- The entries below depth i on the way of k, those beside it. -/
def dE (es : List En) (k : List UInt8) : Nat → List En
  | 0 => es
  | i + 1 => partE (dE es k i) i (bitK k i)
def sibE (es : List En) (k : List UInt8) (i : Nat) : List En := partE (dE es k i) i (1 - bitK k i)
theorem dE_ent (es : List En) (k : List UInt8) : ∀ i, (dE es k i).map En.ent = dK (es.map En.ent) k i
  | 0 => rfl
  | i + 1 => by
    show (partE (dE es k i) i (bitK k i)).map En.ent = partK (dK (es.map En.ent) k i) i (bitK k i)
    rw [partE_ent, dE_ent es k i]
theorem sibE_ent (es : List En) (k : List UInt8) (i : Nat) : (sibE es k i).map En.ent = sibK (es.map En.ent) k i := by
  unfold sibE sibK
  rw [partE_ent, dE_ent]
theorem dE_len (es : List En) (k : List UInt8) : ∀ i, (dE es k i).length ≤ es.length
  | 0 => Nat.le_refl _
  | i + 1 => Nat.le_trans (partE_len _ _ _) (dE_len es k i)
theorem dE_mem {es : List En} {k : List UInt8} {e : En} : ∀ {i : Nat}, e ∈ dE es k i → e ∈ es
  | 0, h => h
  | _ + 1, h => dE_mem (partE_mem h)
theorem dE_two {es : List En} {k : List UInt8} (hs : Sep 0 (es.map En.ent)) {i : Nat} (hi : i ≤ 256) (h : 2 ≤ (dE es k i).length) : i < 256 := by
  have h1 := dK_sep hs k i hi
  rw [← dE_ent] at h1
  have := h1.two (by rw [List.length_map]; exact h)
  omega
end Go.Proofs.Ytbkokcfmndiedaa

/- The reference of layer 8: Under; of layer 7: Get, Same. -/
namespace Go.Proofs.Ytbkokcfmndiedaa
open Go.RowKit
def underE (es : List En) (k : List UInt8) (b : Nat) : List En := es.filter fun e => decide (b ≤ comK e.k k)
theorem underE_ent (es : List En) (k : List UInt8) (b : Nat) : (underE es k b).map En.ent = underK (es.map En.ent) k b := by
  unfold underE underK
  rw [List.filter_map]
  rfl
theorem underE_mem {es : List En} {k : List UInt8} {b : Nat} {e : En} (h : e ∈ underE es k b) : e ∈ es := (List.mem_filter.1 h).1
theorem underE_len (es : List En) (k : List UInt8) (b : Nat) : (underE es k b).length ≤ es.length := List.length_filter_le _ _
/-- The entry of a key. -/
def getE (es : List En) (k : List UInt8) : Option En := es.find? fun e => decide (e.k = k)
def getVal : Option En → Value
  | none => .slice none 0 0
  | some e => .slice e.A e.v.length e.c
end Go.Proofs.Ytbkokcfmndiedaa

/- The reference of layer 7: Same (lists of entries). -/
namespace Go.Proofs.Ytbkokcfmndiedaa
open Go.RowKit

instance : DecidableEq Ent := fun a b => if h : a.k = b.k ∧ a.v = b.v then isTrue (by cases a; cases b; obtain ⟨rfl, rfl⟩ := h; rfl) else isFalse fun e => h ⟨congrArg Ent.k e, congrArg Ent.v e⟩
theorem map_take_succ {es : List En} {m : Nat} {e : En} (h : es[m]? = some e) : (es.take (m + 1)).map En.ent = (es.take m).map En.ent ++ [e.ent] := by
  rw [take_some h, List.map_append]
  rfl
end Go.Proofs.Ytbkokcfmndiedaa

/- What the program of layer 8 keeps, as a contract; the law's Tree over contracts; what a law's walk carries. -/
namespace Go.Proofs.Ytbkokcfmndiedaa
open Go.RowKit

/-- T is the tree of the map l. -/
structure IsMap (l : List Ent) (T : Tv) : Prop where
  sep : Sep 0 l
  tr : T.tr = growT 257 l 0
theorem IsMap.at {l : List Ent} {T : Tv} (h : IsMap l T) (k : List UInt8) : At l k 0 T := At.top k h.tr
/-- A slice of subtrees. -/
def PA (w : World) (A : Option Addr) (ts : List Tv) : Prop := ∀ i T, ts[i]? = some T → ∃ g o, A = some ⟨g, o, none⟩ ∧ w.cell? ⟨g, o + i, none⟩ = some T.val
theorem PA.below {w w' : World} {A : Option Addr} {ts : List Tv} (h : PA w A ts) (hb : Below w.heap.size w w') : PA w' A ts := fun i T hi => by
  obtain ⟨g, o, rfl, h1⟩ := h i T hi
  exact ⟨g, o, rfl, by rw [hb.cell (lt_of_cell h1)]; exact h1⟩
/-- What Get finds at the end of the way. -/
def getT (t : Tr) (k : List UInt8) : Option Ent :=
  match t with
  | .leaf e => if e.k = k then some e else none
  | _ => none
def valO : Option Ent → List UInt8
  | none => []
  | some e => e.v
def limB (b : Int) : Nat := (max 0 (min b 256)).toNat
theorem limB_le (b : Int) : limB b ≤ 256 := by unfold limB; omega
/-- What the program of layer 8 keeps. -/
structure FnV (M : World → Int → Tv → Prop) : Prop where
/-! ### Subtrees of a subtree -/
/-! ### What a law's walk carries -/
end Go.Proofs.Ytbkokcfmndiedaa

/- alive of layer 8 over contracts. -/
namespace Go.Proofs.Ytbkokcfmndiedaa
open Go.RowKit

/-- A row of entries in a block. -/
theorem ea_row {w : World} {g : Nat} {T : TypeId} {fr : Nat × Nat} {es : List En} (h : w.heap[g]? = some (.cells (es.flatMap enC).toArray T fr)) (hes : ∀ e ∈ es, EnOk w e) : EA w (some ⟨g, 0, none⟩) es := fun i e hi => by
  refine ⟨hes e (List.mem_of_getElem? hi), g, 0, rfl, fun j v hv => ?_⟩
  have := flat_at (fun e he => (hes e he).key) hi hv
  rw [Nat.zero_add, cell_of_cells h]
  simpa using this
def e8a (A : Option Addr) : En := ⟨z26, A, [1], 1⟩
def e8b (A : Option Addr) : En := ⟨k128, A, [2], 1⟩
def k77 : List UInt8 := 77 :: List.replicate 31 0
def k129 : List UInt8 := 129 :: List.replicate 31 0
theorem bldKey_77 (w : World) : bldA 23 w #[(0, .int .u8 77)] = .ok (.value (.agg (bA k77))) w := by kernel_rfl
theorem bldKey_129 (w : World) : bldA 23 w #[(0, .int .u8 129)] = .ok (.value (.agg (bA k129))) w := by kernel_rfl
def E8a : Ent := ⟨z26, [1]⟩
def E8b : Ent := ⟨k128, [2]⟩
theorem bit_a : bitK z26 0 = 0 := by decide
theorem bit_b : bitK k128 0 = 1 := by decide
theorem bit_c9 : bitK k129 0 = 1 := by decide
theorem grow_ab : growT 257 [E8a, E8b] 0 = .inner (.leaf E8a) (.leaf E8b) := by
  rw [show (257 : Nat) = 256 + 1 from rfl, growT_two 256 _ 0 (by decide)]
  have h0 : partK [E8a, E8b] 0 0 = [E8a] := by simp [partK, E8a, E8b, bit_a, bit_b]
  have h1 : partK [E8a, E8b] 0 1 = [E8b] := by simp [partK, E8a, E8b, bit_a, bit_b]
  rw [h0, h1, growT_one, growT_one]
  rfl
theorem sep_ab : Sep 0 [E8a, E8b] where
  len := fun a ha => by
    simp only [List.mem_cons, List.not_mem_nil, or_false] at ha
    rcases ha with rfl | rfl <;> rfl
  ne := by
    refine List.pairwise_cons.2 ⟨fun b hb => ?_, List.pairwise_singleton _ _⟩
    rw [List.mem_singleton.1 hb]
    decide
  eq := fun _ _ _ _ i hi => by omega
theorem sep_a : Sep 0 [E8a] where
  len := fun a ha => by rw [List.mem_singleton.1 ha]; rfl
  ne := List.pairwise_singleton _ _
  eq := fun _ _ _ _ i hi => by omega
/-- What the two trees are. -/
structure Two (T : Tv) (v va vb : Value) : Prop where
  val : T.val = v
  f1 : T.fin z26 0 = .leaf va E8a
  d1 : T.dep z26 0 = 1
  s1 : (T.sibs z26 0).length = 1
  w1 : (T.way z26 0).length = 2
  g1 : getT (T.fin k128 0).tr k128 = some E8b
  g2 : getT (T.fin k129 0).tr k129 = none
  c0 : T.child 0 = .leaf va E8a
  u : T.under k128 256 = .leaf vb E8b
theorem two_of {T : Tv} (h : T.tr = growT 257 [E8a, E8b] 0) : ∃ v va vb, T = .inner v (.leaf va E8a) (.leaf vb E8b) := by
  rw [grow_ab] at h
  match T, h with
  | .inner v (.leaf va a) (.leaf vb b), h =>
    injection h with h1 h2
    injection h1 with h1
    injection h2 with h2
    subst h1 h2
    exact ⟨v, va, vb, rfl⟩
theorem com_self : 256 ≤ comK k128 k128 := (com_bits (Nat.le_refl 256)).2 fun _ _ => rfl
theorem two_is (v va vb : Value) : Two (.inner v (.leaf va E8a) (.leaf vb E8b)) v va vb where
  val := rfl
  f1 := by simp [Tv.fin, bit_a]
  d1 := by simp [Tv.dep, bit_a]
  s1 := by simp [Tv.sibs, bit_a]
  w1 := by simp [Tv.way, bit_a]
  g1 := by simp [Tv.fin, bit_b, Tv.tr, getT, E8b]
  g2 := by
    have : k128 ≠ k129 := by decide
    simp [Tv.fin, bit_c9, Tv.tr, getT, E8b, this]
  c0 := rfl
  u := by
    have h := com_self
    simp [Tv.under, Tv.way, Tv.fin, bit_b, E8b, h]
end Go.Proofs.Ytbkokcfmndiedaa

/- What Get finds, as a plain fact. -/
namespace Go.Proofs.Ytbkokcfmndiedaa
open Go.RowKit

theorem get_is {l : List Ent} {k : List UInt8} (hs : Sep 0 l) {T : Tv} (hT : At l k 0 T) : getT (T.fin k 0).tr k = l.find? fun e => decide (e.k = k) := by
  obtain ⟨i1, i2, _⟩ := At.fin hs T 0 hT
  have hf := i1.few hs i2
  have hin : ∀ x ∈ l, x.k = k → x ∈ dK l k (T.dep k 0) := fun x hx he => dK_mem.2 ⟨hx, fun j _ => by rw [he]⟩
  match hm : dK l k (T.dep k 0), hf with
  | [], _ =>
    rw [i1.nil hm]
    refine (List.find?_eq_none.2 fun x hx => ?_).symm
    intro h
    have := hin x hx (of_decide_eq_true h)
    rw [hm] at this
    simp at this
  | [e], _ =>
    rw [i1.one hm]
    show (if e.k = k then some e else none) = _
    by_cases he : e.k = k
    · rw [if_pos he]
      have h1 : e ∈ dK l k (T.dep k 0) := by rw [hm]; simp
      have hel := (dK_mem.1 h1).1
      cases hq : l.find? fun e => decide (e.k = k) with
      | none =>
        have := List.find?_eq_none.1 hq e hel
        simp [he] at this
      | some x =>
        have hx1 := List.find?_some hq
        have hx2 := List.mem_of_find?_eq_some hq
        have := hin x hx2 (of_decide_eq_true hx1)
        rw [hm, List.mem_singleton] at this
        rw [this]
    · rw [if_neg he]
      refine (List.find?_eq_none.2 fun x hx => ?_).symm
      intro h
      have h2 := of_decide_eq_true h
      have := hin x hx h2
      rw [hm, List.mem_singleton] at this
      rw [this] at h2
      exact he h2
theorem getE_map (es : List En) (k : List UInt8) : (getE es k).map En.ent = (es.map En.ent).find? fun e => decide (e.k = k) := by
  unfold getE
  rw [List.find?_map]
  rfl
theorem get_isE {O : List En} {k : List UInt8} {T : Tv} (h : IsMap (O.map En.ent) T) : getT (T.fin k 0).tr k = (getE O k).map En.ent := by
  rw [get_is h.sep (h.at k), getE_map]
theorem getE_mem {es : List En} {k : List UInt8} {e : En} (h : getE es k = some e) : e ∈ es ∧ e.k = k := ⟨List.mem_of_find?_eq_some h, by have := List.find?_some h; simpa using this⟩
end Go.Proofs.Ytbkokcfmndiedaa
