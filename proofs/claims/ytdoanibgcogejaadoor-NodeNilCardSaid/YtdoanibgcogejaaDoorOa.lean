/- Subtrees as data with their addresses; ways: plain facts (layer 8). -/
import Derived.Test.YtdoanibgcogejaaDoorMy
namespace Go.Proofs.YtdoanibgcogejaaDoor
open Go.RowKit

/-- A subtree as data, with its address. -/
inductive Tv where
  | nil
  | leaf (v : Value) (e : Ent)
  | inner (v : Value) (a b : Tv)
def Tv.val : Tv → Value
  | .nil => .pointer none
  | .leaf v _ => v
  | .inner v _ _ => v
def Tv.tr : Tv → Tr
  | .nil => .nil
  | .leaf _ e => .leaf e
  | .inner _ a b => .inner a.tr b.tr
def kindT : Tr → Int
  | .nil => 0
  | .leaf _ => 1
  | .inner _ _ => 2
def Tv.left : Tv → Tv
  | .inner _ a _ => a
  | _ => .nil
def Tv.right : Tv → Tv
  | .inner _ _ b => b
  | _ => .nil
/-- The child for a bit. -/
def Tv.child (T : Tv) (b : Int) : Tv := if b = 0 then T.left else T.right
/-- The subtrees on the way of a key, those beside it, the end with its depth. -/
def Tv.way (k : List UInt8) : Tv → Nat → List Tv
  | .inner v a b, d => .inner v a b :: (if bitK k d = 0 then way k a (d + 1) else way k b (d + 1))
  | t, _ => [t]
def Tv.sibs (k : List UInt8) : Tv → Nat → List Tv
  | .inner _ a b, d => if bitK k d = 0 then b :: sibs k a (d + 1) else a :: sibs k b (d + 1)
  | _, _ => []
def Tv.fin (k : List UInt8) : Tv → Nat → Tv
  | .inner _ a b, d => if bitK k d = 0 then fin k a (d + 1) else fin k b (d + 1)
  | t, _ => t
def Tv.dep (k : List UInt8) : Tv → Nat → Nat
  | .inner _ a b, d => if bitK k d = 0 then dep k a (d + 1) else dep k b (d + 1)
  | _, d => d
theorem way_len (k : List UInt8) : ∀ (T : Tv) (d : Nat), (T.way k d).length = (T.sibs k d).length + 1
  | .nil, _ => rfl
  | .leaf _ _, _ => rfl
  | .inner v a b, d => by
    unfold Tv.way Tv.sibs
    split
    · rw [List.length_cons, List.length_cons, way_len k a (d + 1)]
    · rw [List.length_cons, List.length_cons, way_len k b (d + 1)]
theorem sibs_len (k : List UInt8) : ∀ (T : Tv) (d : Nat), d + (T.sibs k d).length = T.dep k d
  | .nil, _ => rfl
  | .leaf _ _, _ => rfl
  | .inner v a b, d => by
    unfold Tv.sibs Tv.dep
    split
    · rw [List.length_cons, ← sibs_len k a (d + 1)]; omega
    · rw [List.length_cons, ← sibs_len k b (d + 1)]; omega
theorem way_head (k : List UInt8) : ∀ (T : Tv) (d : Nat), (T.way k d)[0]? = some T
  | .nil, _ => rfl
  | .leaf _ _, _ => rfl
  | .inner _ _ _, _ => rfl
theorem way_last (k : List UInt8) : ∀ (T : Tv) (d : Nat), (T.way k d)[(T.sibs k d).length]? = some (T.fin k d)
  | .nil, _ => rfl
  | .leaf _ _, _ => rfl
  | .inner v a b, d => by
    unfold Tv.way Tv.sibs Tv.fin
    split
    · rw [List.length_cons, List.getElem?_cons_succ, way_last k a (d + 1)]
    · rw [List.length_cons, List.getElem?_cons_succ, way_last k b (d + 1)]
/-- Each subtree on the way but the last is an inner node; its children are the next one and the one beside. -/
theorem way_at (k : List UInt8) : ∀ (T : Tv) (d i : Nat), i < (T.sibs k d).length → ∃ v a b, (T.way k d)[i]? = some (.inner v a b) ∧
    (T.way k d)[i + 1]? = some (if bitK k (d + i : Nat) = 0 then a else b) ∧ (T.sibs k d)[i]? = some (if bitK k (d + i : Nat) = 0 then b else a)
  | .nil, _, _, h => absurd h (Nat.not_lt_zero _)
  | .leaf _ _, _, _, h => absurd h (Nat.not_lt_zero _)
  | .inner v a b, d, 0, _ => by
    refine ⟨v, a, b, rfl, ?_, ?_⟩
    · unfold Tv.way
      rw [List.getElem?_cons_succ, show d + 0 = d from rfl]
      by_cases hb : bitK k d = 0
      · rw [if_pos hb, if_pos hb]; exact way_head k a _
      · rw [if_neg hb, if_neg hb]; exact way_head k b _
    · unfold Tv.sibs
      rw [show d + 0 = d from rfl]
      by_cases hb : bitK k d = 0
      · rw [if_pos hb, if_pos hb]; rfl
      · rw [if_neg hb, if_neg hb]; rfl
  | .inner v a b, d, i + 1, h => by
    unfold Tv.sibs at h
    unfold Tv.way Tv.sibs
    by_cases hb : bitK k d = 0
    · rw [if_pos hb] at h
      rw [if_pos hb, if_pos hb]
      obtain ⟨v', a', b', h1, h2, h3⟩ := way_at k a (d + 1) i (Nat.lt_of_succ_lt_succ h)
      rw [show d + 1 + i = d + (i + 1) by omega] at h2 h3
      exact ⟨v', a', b', h1, h2, h3⟩
    · rw [if_neg hb] at h
      rw [if_neg hb, if_neg hb]
      obtain ⟨v', a', b', h1, h2, h3⟩ := way_at k b (d + 1) i (Nat.lt_of_succ_lt_succ h)
      rw [show d + 1 + i = d + (i + 1) by omega] at h2 h3
      exact ⟨v', a', b', h1, h2, h3⟩
/-! ### The map below depth i on the way of a key -/
def dK (l : List Ent) (k : List UInt8) : Nat → List Ent
  | 0 => l
  | i + 1 => partK (dK l k i) i (bitK k i)
def sibK (l : List Ent) (k : List UInt8) (i : Nat) : List Ent := partK (dK l k i) i (1 - bitK k i)
theorem dK_len (l : List Ent) (k : List UInt8) : ∀ i, (dK l k i).length ≤ l.length
  | 0 => Nat.le_refl _
  | i + 1 => Nat.le_trans (partK_len _ _ _) (dK_len l k i)
theorem dK_sep {l : List Ent} (h : Sep 0 l) (k : List UInt8) : ∀ i : Nat, i ≤ 256 → Sep (i : Int) (dK l k i)
  | 0, _ => h
  | i + 1, hi => by
    have := (dK_sep h k i (by omega)).part (by omega) (by omega) (bitK k i)
    exact this
theorem sibK_sep {l : List Ent} (h : Sep 0 l) (k : List UInt8) (i : Nat) (hi : i < 256) : Sep ((i : Int) + 1) (sibK l k i) := (dK_sep h k i (by omega)).part (by omega) (by omega) _
/-- T is the subtree at depth d of the map l, on the way of k. -/
structure At (l : List Ent) (k : List UInt8) (d : Nat) (T : Tv) : Prop where
  le : d ≤ 256
  tr : T.tr = growT (257 - d) (dK l k d) d
theorem bitK_01 (k : List UInt8) (d : Nat) (h : d < 256) : bitK k d = 0 ∨ bitK k d = 1 := by
  rw [bitK_in k (by omega) (by omega)]
  have := Bt.bit_lt (keyF k) (d : Int).toNat
  omega
/-- An inner node of a map has two keys at least, and its children are those of the parts. -/
theorem At.inner {l : List Ent} {k : List UInt8} {d : Nat} {v : Value} {a b : Tv} (hs : Sep 0 l) (h : At l k d (.inner v a b)) :
    d < 256 ∧ 2 ≤ (dK l k d).length ∧ At l k (d + 1) (if bitK k d = 0 then a else b) ∧ (if bitK k d = 0 then b else a).tr = growT (256 - d) (sibK l k d) (d + 1) := by
  have ht := h.tr
  have hle := h.le
  have hsd := dK_sep hs k d hle
  rcases Nat.lt_or_ge (dK l k d).length 2 with hl | hl
  · match hm : dK l k d, hl with
    | [], _ => rw [hm, growT_none] at ht; cases ht
    | [e], _ => rw [hm, growT_one] at ht; cases ht
  have h256 : d < 256 := by have := hsd.two hl; omega
  rw [show 257 - d = (256 - d) + 1 by omega, growT_two _ _ _ hl] at ht
  have g0 := grow_both 0 (256 - d) (partK (dK l k d) d 0) (d + 1) (hsd.part (by omega) (by omega) 0) (.inr ⟨by omega, by omega, by omega⟩)
  have g1 := grow_both 0 (256 - d) (partK (dK l k d) d 1) (d + 1) (hsd.part (by omega) (by omega) 1) (.inr ⟨by omega, by omega, by omega⟩)
  have hsum := parts_sum (dK l k d) (d := d) (by omega) (by omega)
  rw [joinT_inner _ _ (by rw [g0.1, g1.1]; omega)] at ht
  injection ht with hta htb
  refine ⟨h256, hl, ?_⟩
  rcases bitK_01 k d h256 with hb | hb
  · rw [if_pos hb, if_pos hb]
    refine ⟨⟨by omega, ?_⟩, ?_⟩
    · rw [hta, show 257 - (d + 1) = 256 - d by omega]
      show _ = growT _ (partK (dK l k d) d (bitK k d)) _
      rw [hb]
      rfl
    · rw [htb]
      unfold sibK
      rw [hb]
      rfl
  · rw [if_neg (by omega), if_neg (by omega)]
    refine ⟨⟨by omega, ?_⟩, ?_⟩
    · rw [htb, show 257 - (d + 1) = 256 - d by omega]
      show _ = growT _ (partK (dK l k d) d (bitK k d)) _
      rw [hb]
      rfl
    · rw [hta]
      unfold sibK
      rw [hb]
      rfl
/-- What is no inner node has one key at most. -/
theorem At.few {l : List Ent} {k : List UInt8} {d : Nat} {T : Tv} (hs : Sep 0 l) (h : At l k d T) (hk : kindT T.tr ≠ 2) : (dK l k d).length ≤ 1 := by
  have ht := h.tr
  have hle := h.le
  have hsd := dK_sep hs k d hle
  refine Classical.byContradiction fun hl => hk ?_
  have h256 : d < 256 := by have := hsd.two (by omega); omega
  rw [show 257 - d = (256 - d) + 1 by omega, growT_two _ _ _ (by omega)] at ht
  have g0 := grow_both 0 (256 - d) (partK (dK l k d) d 0) (d + 1) (hsd.part (by omega) (by omega) 0) (.inr ⟨by omega, by omega, by omega⟩)
  have g1 := grow_both 0 (256 - d) (partK (dK l k d) d 1) (d + 1) (hsd.part (by omega) (by omega) 1) (.inr ⟨by omega, by omega, by omega⟩)
  have hsum := parts_sum (dK l k d) (d := d) (by omega) (by omega)
  rw [joinT_inner _ _ (by rw [g0.1, g1.1]; omega)] at ht
  rw [ht]
  rfl
theorem At.nil {l : List Ent} {k : List UInt8} {d : Nat} {T : Tv} (h : At l k d T) (hl : dK l k d = []) : T.tr = .nil := by rw [h.tr, hl, growT_none]
theorem At.one {l : List Ent} {k : List UInt8} {d : Nat} {T : Tv} {e : Ent} (h : At l k d T) (hl : dK l k d = [e]) : T.tr = .leaf e := by rw [h.tr, hl, growT_one]
theorem At.both {l : List Ent} {k : List UInt8} {d : Nat} {T : Tv} (hs : Sep 0 l) (h : At l k d T) (n : Int) : lenT T.tr = (dK l k d).length ∧ digT n T.tr = rootK (257 - d) n (dK l k d) d := by
  have hle := h.le
  rw [h.tr]
  exact grow_both n (257 - d) (dK l k d) d (dK_sep hs k d hle) (.inr ⟨by omega, by omega, by omega⟩)
end Go.Proofs.YtdoanibgcogejaaDoor
