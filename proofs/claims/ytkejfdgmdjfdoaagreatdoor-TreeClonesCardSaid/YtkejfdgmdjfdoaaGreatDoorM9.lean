import Derived.Test.YtkejfdgmdjfdoaaGreatDoorG1
namespace Go.Proofs.YtkejfdgmdjfdoaaGreatDoor
set_option linter.unusedSimpArgs false
set_option linter.unusedVariables false
section
open Go.RowKit
inductive Tv where
 | nil
 | leaf (v : Value) (e : Ent)
 | inner (v : Value) (a b : Tv)
def Tv.val : Tv → Value
 | .nil => .pointer none
 | .leaf v _ => v
 | .inner v _ _ => v
def Tv.tr : Tv → Tr
 | .nil => .nil
 | .leaf _ e => .leaf e
 | .inner _ a b => .inner a.tr b.tr
def kindT : Tr → Int
 | .nil => 0
 | .leaf _ => 1
 | .inner _ _ => 2
def Tv.left : Tv → Tv
 | .inner _ a _ => a
 | _ => .nil
def Tv.right : Tv → Tv
 | .inner _ _ b => b
 | _ => .nil
def Tv.child (T : Tv) (b : Int) : Tv := if b = 0 then T.left else T.right
def Tv.way (k : List UInt8) : Tv → Nat → List Tv
 | .inner v a b, d => .inner v a b :: (if bitK k d = 0 then way k a (d + 1) else way k b (d + 1))
 | t, _ => [t]
def Tv.sibs (k : List UInt8) : Tv → Nat → List Tv
 | .inner _ a b, d => if bitK k d = 0 then b :: sibs k a (d + 1) else a :: sibs k b (d + 1)
 | _, _ => []
def Tv.fin (k : List UInt8) : Tv → Nat → Tv
 | .inner _ a b, d => if bitK k d = 0 then fin k a (d + 1) else fin k b (d + 1)
 | t, _ => t
def Tv.dep (k : List UInt8) : Tv → Nat → Nat
 | .inner _ a b, d => if bitK k d = 0 then dep k a (d + 1) else dep k b (d + 1)
 | _, d => d
theorem way_len (k : List UInt8) : ∀ (T : Tv) (d : Nat), (T.way k d).length = (T.sibs k d).length + 1
 | .nil, _ => rfl
 | .leaf _ _, _ => rfl
 | .inner v a b, d => by
  unfold Tv.way Tv.sibs
  split
  ·rw [List.length_cons, List.length_cons, way_len k a (d + 1)]
  ·rw [List.length_cons, List.length_cons, way_len k b (d + 1)]
theorem sibs_len (k : List UInt8) : ∀ (T : Tv) (d : Nat), d + (T.sibs k d).length = T.dep k d
 | .nil, _ => rfl
 | .leaf _ _, _ => rfl
 | .inner v a b, d => by
  unfold Tv.sibs Tv.dep
  split
  ·rw [List.length_cons, ← sibs_len k a (d + 1)]; omega
  ·rw [List.length_cons, ← sibs_len k b (d + 1)]; omega
theorem way_last (k : List UInt8) : ∀ (T : Tv) (d : Nat), (T.way k d)[(T.sibs k d).length]? = some (T.fin k d)
 | .nil, _ => rfl
 | .leaf _ _, _ => rfl
 | .inner v a b, d => by
  unfold Tv.way Tv.sibs Tv.fin
  split
  ·rw [List.length_cons, List.getElem?_cons_succ, way_last k a (d + 1)]
  ·rw [List.length_cons, List.getElem?_cons_succ, way_last k b (d + 1)]
def dK (l : List Ent) (k : List UInt8) : Nat → List Ent
 | 0 => l
 | i + 1 => partK (dK l k i) i (bitK k i)
def sibK (l : List Ent) (k : List UInt8) (i : Nat) : List Ent := partK (dK l k i) i (1 - bitK k i)
theorem dK_len (l : List Ent) (k : List UInt8) : ∀ i, (dK l k i).length ≤ l.length
 | 0 => Nat.le_refl _
 | i + 1 => Nat.le_trans (partK_len _ _ _) (dK_len l k i)
theorem dK_sep {l : List Ent} (h : Sep 0 l) (k : List UInt8) : ∀ i : Nat, i ≤ 256 → Sep (i : Int) (dK l k i)
 | 0, _ => h
 | i + 1, hi => by
  have := (dK_sep h k i (by omega)).part (by omega) (by omega) (bitK k i)
  exact this
theorem sibK_sep {l : List Ent} (h : Sep 0 l) (k : List UInt8) (i : Nat) (hi : i < 256) : Sep ((i : Int) + 1) (sibK l k i) := (dK_sep h k i (by omega)).part (by omega) (by omega) _
structure At (l : List Ent) (k : List UInt8) (d : Nat) (T : Tv) : Prop where
 le : d ≤ 256
 tr : T.tr = growT (257 - d) (dK l k d) d
theorem bitK_01 (k : List UInt8) (d : Nat) (h : d < 256) : bitK k d = 0 ∨ bitK k d = 1 := by
 rw [bitK_in k (by omega) (by omega)]
 have := Bt.bit_lt (keyF k) (d : Int).toNat
 omega
theorem At.inner {l : List Ent} {k : List UInt8} {d : Nat} {v : Value} {a b : Tv} (hs : Sep 0 l) (h : At l k d (.inner v a b)) :
  d < 256 ∧ 2 ≤ (dK l k d).length ∧ At l k (d + 1) (if bitK k d = 0 then a else b) ∧ (if bitK k d = 0 then b else a).tr = growT (256 - d) (sibK l k d) (d + 1) := by
 have ht := h.tr
 have hle := h.le
 have hsd := dK_sep hs k d hle
 rcases Nat.lt_or_ge (dK l k d).length 2 with hl | hl
 ·match hm : dK l k d, hl with
  | [], _ => rw [hm, growT_none] at ht; cases ht
  | [e], _ => rw [hm, growT_one] at ht; cases ht
 have h256 : d < 256 := by have := hsd.two hl; omega
 rw [show 257 - d = (256 - d) + 1 by omega, growT_two _ _ _ hl] at ht
 have g0 := grow_both 0 (256 - d) (partK (dK l k d) d 0) (d + 1) (hsd.part (by omega) (by omega) 0) (.inr ⟨by omega, by omega, by omega⟩)
 have g1 := grow_both 0 (256 - d) (partK (dK l k d) d 1) (d + 1) (hsd.part (by omega) (by omega) 1) (.inr ⟨by omega, by omega, by omega⟩)
 have hsum := parts_sum (dK l k d) (d := d) (by omega) (by omega)
 rw [joinT_inner _ _ (by rw [g0.1, g1.1]; omega)] at ht
 injection ht with hta htb
 refine ⟨h256, hl, ?_⟩
 rcases bitK_01 k d h256 with hb | hb
 ·rw [if_pos hb, if_pos hb]
  refine ⟨⟨by omega, ?_⟩, ?_⟩
  ·rw [hta, show 257 - (d + 1) = 256 - d by omega]
   show _ = growT _ (partK (dK l k d) d (bitK k d)) _
   rw [hb]
   rfl
  ·rw [htb]
   unfold sibK
   rw [hb]
   rfl
 ·rw [if_neg (by omega), if_neg (by omega)]
  refine ⟨⟨by omega, ?_⟩, ?_⟩
  ·rw [htb, show 257 - (d + 1) = 256 - d by omega]
   show _ = growT _ (partK (dK l k d) d (bitK k d)) _
   rw [hb]
   rfl
  ·rw [hta]
   unfold sibK
   rw [hb]
   rfl
theorem At.few {l : List Ent} {k : List UInt8} {d : Nat} {T : Tv} (hs : Sep 0 l) (h : At l k d T) (hk : kindT T.tr ≠ 2) : (dK l k d).length ≤ 1 := by
 have ht := h.tr
 have hle := h.le
 have hsd := dK_sep hs k d hle
 refine Classical.byContradiction fun hl => hk ?_
 have h256 : d < 256 := by have := hsd.two (by omega); omega
 rw [show 257 - d = (256 - d) + 1 by omega, growT_two _ _ _ (by omega)] at ht
 have g0 := grow_both 0 (256 - d) (partK (dK l k d) d 0) (d + 1) (hsd.part (by omega) (by omega) 0) (.inr ⟨by omega, by omega, by omega⟩)
 have g1 := grow_both 0 (256 - d) (partK (dK l k d) d 1) (d + 1) (hsd.part (by omega) (by omega) 1) (.inr ⟨by omega, by omega, by omega⟩)
 have hsum := parts_sum (dK l k d) (d := d) (by omega) (by omega)
 rw [joinT_inner _ _ (by rw [g0.1, g1.1]; omega)] at ht
 rw [ht]
 rfl
theorem At.nil {l : List Ent} {k : List UInt8} {d : Nat} {T : Tv} (h : At l k d T) (hl : dK l k d = []) : T.tr = .nil := by rw [h.tr, hl, growT_none]
theorem At.one {l : List Ent} {k : List UInt8} {d : Nat} {T : Tv} {e : Ent} (h : At l k d T) (hl : dK l k d = [e]) : T.tr = .leaf e := by rw [h.tr, hl, growT_one]
theorem At.both {l : List Ent} {k : List UInt8} {d : Nat} {T : Tv} (hs : Sep 0 l) (h : At l k d T) (n : Int) : lenT T.tr = (dK l k d).length ∧ digT n T.tr = rootK (257 - d) n (dK l k d) d := by
 have hle := h.le
 rw [h.tr]
 exact grow_both n (257 - d) (dK l k d) d (dK_sep hs k d hle) (.inr ⟨by omega, by omega, by omega⟩)
end
section
open Go.RowKit
theorem At.fin {l : List Ent} {k : List UInt8} (hs : Sep 0 l) : ∀ (T : Tv) (d : Nat), At l k d T →
  At l k (T.dep k d) (T.fin k d) ∧ kindT (T.fin k d).tr ≠ 2 ∧ (∀ j, d ≤ j → j < T.dep k d → 2 ≤ (dK l k j).length)
 | .nil, d, h => ⟨h, by show (0 : Int) ≠ 2; decide, fun j h1 h2 => absurd h2 (by show ¬ j < d; omega)⟩
 | .leaf v e, d, h => ⟨h, by show (1 : Int) ≠ 2; decide, fun j h1 h2 => absurd h2 (by show ¬ j < d; omega)⟩
 | .inner v a b, d, h => by
  obtain ⟨h256, h2, hc, _⟩ := h.inner hs
  unfold Tv.fin Tv.dep
  by_cases hb : bitK k d = 0
  ·rw [if_pos hb] at hc
   rw [if_pos hb, if_pos hb]
   obtain ⟨i1, i2, i3⟩ := At.fin hs a (d + 1) hc
   refine ⟨i1, i2, fun j h1 h3 => ?_⟩
   rcases Nat.eq_or_lt_of_le h1 with rfl | h1
   ·exact h2
   ·exact i3 j h1 h3
  ·rw [if_neg hb] at hc
   rw [if_neg hb, if_neg hb]
   obtain ⟨i1, i2, i3⟩ := At.fin hs b (d + 1) hc
   refine ⟨i1, i2, fun j h1 h3 => ?_⟩
   rcases Nat.eq_or_lt_of_le h1 with rfl | h1
   ·exact h2
   ·exact i3 j h1 h3
theorem At.way {l : List Ent} {k : List UInt8} (hs : Sep 0 l) : ∀ (T : Tv) (d : Nat), At l k d T → ∀ (i : Nat) (T' : Tv), (T.way k d)[i]? = some T' → At l k (d + i) T'
 | .nil, d, h, i, T', hi => by
  cases i with
  | zero => cases hi; exact h
  | succ i => cases hi
 | .leaf v e, d, h, i, T', hi => by
  cases i with
  | zero => cases hi; exact h
  | succ i => cases hi
 | .inner v a b, d, h, i, T', hi => by
  obtain ⟨h256, h2, hc, _⟩ := h.inner hs
  unfold Tv.way at hi
  cases i with
  | zero => cases hi; exact h
  | succ i =>
   rw [List.getElem?_cons_succ] at hi
   rw [show d + (i + 1) = d + 1 + i by omega]
   by_cases hb : bitK k d = 0
   ·rw [if_pos hb] at hc hi
    exact At.way hs a (d + 1) hc i T' hi
   ·rw [if_neg hb] at hc hi
    exact At.way hs b (d + 1) hc i T' hi
structure SibAt (l : List Ent) (k : List UInt8) (i : Nat) (S : Tv) : Prop where
 lt : i < 256
 tr : S.tr = growT (256 - i) (sibK l k i) ((i : Int) + 1)
theorem At.top {l : List Ent} {T : Tv} (k : List UInt8) (h : T.tr = growT 257 l 0) : At l k 0 T := ⟨by decide, h⟩
theorem dK_mem {l : List Ent} {k : List UInt8} {e : Ent} : ∀ {i : Nat}, e ∈ dK l k i ↔ e ∈ l ∧ ∀ j, j < i → bitK e.k j = bitK k j
 | 0 => ⟨fun h => ⟨h, fun j hj => absurd hj (Nat.not_lt_zero j)⟩, fun h => h.1⟩
 | i + 1 => by
  constructor
  ·intro h
   obtain ⟨h1, h2⟩ := List.mem_filter.1 h
   obtain ⟨h3, h4⟩ := dK_mem.1 h1
   refine ⟨h3, fun j hj => ?_⟩
   rcases Nat.eq_or_lt_of_le (Nat.lt_succ_iff.1 hj) with rfl | hj
   ·exact of_decide_eq_true h2
   ·exact h4 j hj
  ·rintro ⟨h1, h2⟩
   exact List.mem_filter.2 ⟨dK_mem.2 ⟨h1, fun j hj => h2 j (by omega)⟩, decide_eq_true (h2 i (by omega))⟩
def comK (a b : List UInt8) : Nat := Bt.common (keyF a) (keyF b)
theorem com_bits {a b : List UInt8} {i : Nat} (hi : i ≤ 256) : i ≤ comK a b ↔ ∀ j, j < i → bitK a j = bitK b j := by
 obtain ⟨c1, c2, c3⟩ := Bt.common_spec (keyF a) (keyF b)
 constructor
 ·intro h j hj
  have hc : i ≤ Bt.common (keyF a) (keyF b) := h
  rw [bitK_in a (by omega) (by omega), bitK_in b (by omega) (by omega), c2 _ (by omega)]
 ·intro h
  refine Classical.byContradiction fun hn => ?_
  have hlt : Bt.common (keyF a) (keyF b) < i := Nat.lt_of_not_le hn
  have h1 := c3 (by omega)
  have h2 := h _ hlt
  rw [bitK_in a (by omega) (by omega), bitK_in b (by omega) (by omega)] at h2
  rw [Int.toNat_natCast] at h2
  exact h1 (Int.ofNat.inj h2)
def Tv.under (k : List UInt8) (b : Nat) (T : Tv) : Tv :=
 match (T.way k 0)[b]? with
 | some S => S
 | none => match T.fin k 0 with
  | .leaf v e => if b ≤ comK e.k k then .leaf v e else .nil
  | _ => .nil
end
end Go.Proofs.YtkejfdgmdjfdoaaGreatDoor
