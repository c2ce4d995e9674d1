import Derived.Test.YtjgdindjimbfeaaGreatDoorLM
import Derived.Test.YtjgdindjimbfeaaGreatDoorME
import Derived.Test.YtjgdindjimbfeaaGreatDoorM4
import Derived.Test.YtjgdindjimbfeaaGreatDoorMD
namespace Go.Proofs.YtjgdindjimbfeaaGreatDoor
set_option linter.unusedSimpArgs false
set_option linter.unusedVariables false
set_option maxHeartbeats 1000000
set_option maxRecDepth 100000
section
open Go.RowKit
theorem rempty_c (n : Int) (w : World) : Calls Tryz.prog 30 #[.int .i64 n] w fun e w' => e = .returned (.agg (bA (digL n emptyL))) ∧ Below w.heap.size w w' := by
 obtain ⟨X, hX⟩ : ∃ X, X = w.alloc (.cells (bA z26) 47) := ⟨_, rfl⟩
 have hb0 : Below w.heap.size w X := by rw [hX]; exact (Below.refl _ _).alloc (Nat.le_refl _) _
 have hrow : RowB X w.heap.size 47 z26 := by rw [hX]; exact RowB.alloc w _ _
 have HSZ : Hid (w.heap.size + 1 = X.heap.size) := by show _ = _; rw [hX]; simp
 have HX := Lib.hid hX
 have HB0 := Lib.hid hb0
 have HRW := Lib.hid hrow
 have hgl : (digL n emptyL).length = 32 := dig_len _ _
 have HS : Hid (∀ Y : World, Calls Tryz.prog 50 #[.int .i64 n, .slice (some ⟨Y.heap.size, 0, none⟩) 1 1] (Y.alloc (.cells #[bv 3] 5)) fun e w' => e = .returned (.agg (bA (digL n emptyL))) ∧ Below (Y.alloc (.cells #[bv 3] 5)).heap.size (Y.alloc (.cells #[bv 3] 5)) w') := fun Y => by
  obtain ⟨A1, c1, he, hc1, hA1⟩ := (own_made Y 3).any
  cases he
  exact rdig_c n _ _ emptyL _ hA1 (by decide)
 obtain ⟨g, hg⟩ : ∃ g, g = digL n emptyL := ⟨_, rfl⟩
 rw [← hg] at HS hgl ⊢
 have HGL := Lib.hid hgl
 clear hX hb0 hrow hg hgl
 go_enter Tryz.func30, Tryz.ntmps30
 go_wp2_with fail
 rw [← HX.out, HSZ.out]
 clear HX
 refine (HS.out X).mono ?_
 rintro _ w2 ⟨rfl, hb⟩
 have hb1 : Below X.heap.size X w2 := ((Below.refl _ _).alloc (Nat.le_refl X.heap.size) _).trans (hb.mono (by simp))
 have HB2 := Lib.hid (HB0.out.trans (hb1.mono HB0.out.size))
 have HR2 := Lib.hid (HRW.out.below hb1)
 have sb := stA_row (t := 47) HR2.out (v := bA g) (by rw [bA_size, HGL.out]; exact info26) (by rw [bA_size, bA_size, HGL.out]; rfl) (bA_one _)
 clear hb hb1
 go_wp2
 refine bodyPost_ret (v := .agg (bA g)) ?_ rfl ⟨rfl, Bt.below_row HB2.out (by omega) _⟩
 exact results_cell_row Tryz.results30 _ _ w.heap.size 47 _ (0, 0) _ rfl (setRow_heap w2 _ _ _ 47 _ HR2.out) Tryz.underlying47 rfl (by rw [bA_size, HGL.out]; exact info26)
def rootK : Nat → Int → List Ent → Int → List UInt8
 | 0, n, l, _ => match l with
  | [] => digL n emptyL
  | e :: _ => digL n (leafL e.k (digL n (valL e.v)))
 | f + 1, n, l, d => match l with
  | [] => digL n emptyL
  | [e] => digL n (leafL e.k (digL n (valL e.v)))
  | _ :: _ :: _ => digL n (nodeL (rootK f n (partK l d 0) (d + 1)) (rootK f n (partK l d 1) (d + 1)))
theorem rootK_len (f : Nat) (n : Int) (l : List Ent) (d : Int) : (rootK f n l d).length = 32 := by
 cases f with
 | zero => unfold rootK; split <;> exact dig_len _ _
 | succ f => unfold rootK; split <;> exact dig_len _ _
theorem rootK_none (f : Nat) (n : Int) (d : Int) : rootK f n [] d = digL n emptyL := by cases f <;> rfl
theorem rootK_one (f : Nat) (n : Int) (e : Ent) (d : Int) : rootK f n [e] d = digL n (leafL e.k (digL n (valL e.v))) := by cases f <;> rfl
theorem rootK_two (f : Nat) (n : Int) (l : List Ent) (d : Int) (h : 2 ≤ l.length) : rootK (f + 1) n l d = digL n (nodeL (rootK f n (partK l d 0) (d + 1)) (rootK f n (partK l d 1) (d + 1))) := by
 match l, h with
 | _ :: _ :: _, _ => rfl
theorem partE_last (l : List En) (d b : Int) (hd : 256 ≤ d) (hb : 0 ≤ b) : partE l d b = [] := by
 unfold partE
 rw [List.filter_eq_nil_iff]
 intro e _
 have : bitK e.k d = -1 := by unfold bitK Bt.bitI; rw [if_neg (by omega)]
 rw [this, decide_eq_false (by omega)]
 simp
def Deep (f : Nat) (d : Int) (l : Nat) : Prop := l ≤ 1 ∨ (0 ≤ d ∧ d ≤ 256 ∧ 256 < d + f)
theorem Deep.part {f : Nat} {d : Int} {l : List En} (h : Deep (f + 1) d l.length) (hl : 2 ≤ l.length) (b : Int) (hb : 0 ≤ b) : Deep f (d + 1) (partE l d b).length := by
 rcases h with h | ⟨h0, h1, h2⟩
 ·omega
 ·by_cases hd : d = 256
  ·rw [partE_last l d b (by omega) hb]; exact .inl (Nat.zero_le _)
  ·exact .inr ⟨by omega, by omega, by omega⟩
end
section
open Go.RowKit
end
section
open Go.RowKit
inductive Tr where
 | nil
 | leaf (e : Ent)
 | inner (a b : Tr)
def joinT : Tr → Tr → Tr
 | .nil, .nil => .nil
 | .nil, .leaf e => .leaf e
 | .leaf e, .nil => .leaf e
 | a, b => .inner a b
def growT : Nat → List Ent → Int → Tr
 | 0, l, _ => match l with
  | [] => .nil
  | e :: _ => .leaf e
 | f + 1, l, d => match l with
  | [] => .nil
  | [e] => .leaf e
  | _ :: _ :: _ => joinT (growT f (partK l d 0) (d + 1)) (growT f (partK l d 1) (d + 1))
def lenT : Tr → Nat
 | .nil => 0
 | .leaf _ => 1
 | .inner a b => lenT a + lenT b
theorem growT_none (f : Nat) (d : Int) : growT f [] d = .nil := by cases f <;> rfl
theorem growT_one (f : Nat) (e : Ent) (d : Int) : growT f [e] d = .leaf e := by cases f <;> rfl
theorem growT_two (f : Nat) (l : List Ent) (d : Int) (h : 2 ≤ l.length) : growT (f + 1) l d = joinT (growT f (partK l d 0) (d + 1)) (growT f (partK l d 1) (d + 1)) := by
 match l, h with
 | _ :: _ :: _, _ => rfl
theorem cost (f a b L : Nat) (h : a + b ≤ L) (hL : 1 ≤ L) : (3 * f + 2) * a + (3 * f + 2) * b + 3 ≤ (3 * (f + 1) + 2) * L := by
 have h1 := Nat.mul_le_mul_left (3 * f + 2) h
 rw [Nat.mul_add] at h1
 have h2 : (3 * (f + 1) + 2) * L = (3 * f + 2) * L + 3 * L := by rw [show 3 * (f + 1) + 2 = (3 * f + 2) + 3 by omega, Nat.add_mul]
 omega
theorem Hs.range {w w' : World} {b : Nat} {n : Int} {c : Nat} {g o : Nat} {e : En} (h : Hs w b n c) (hr : w.rangeAt g o (enC e)) (hk : e.k.length = 32) (k : Keep (fun i => i = b) w w') : w'.rangeAt g o (enC e) := by
 have hg : g ≠ b := by
  rintro rfl
  have h1 := hr 0 (bv (e.k.getD 0 0)) (by
   unfold enC
   rw [List.getElem?_append_left (by rw [List.length_map, hk]; decide), List.getElem?_map, List.getD_eq_getElem?_getD, List.getElem?_eq_getElem (by omega)]
   rfl)
  rw [cell_of_cells h, Nat.add_zero] at h1
  match o, h1 with
  | 0, h1 => cases h1
  | 1, h1 => cases h1
  | q + 2, h1 => simp at h1
 intro j v hv
 exact k.cellAt (hr j v hv) hg
theorem Hs.ok {w w' : World} {b : Nat} {n : Int} {c : Nat} {e : En} (h : Hs w b n c) (he : EnOk w e) (k : Keep (fun i => i = b) w w') : EnOk w' e := ⟨he.key, he.cap, h.ba he.val k⟩
theorem Hs.ea {w w' : World} {b : Nat} {n : Int} {c : Nat} {A : Option Addr} {es : List En} (h : Hs w b n c) (hA : EA w A es) (k : Keep (fun i => i = b) w w') : EA w' A es := fun i e hi => by
 obtain ⟨h1, g, o, rfl, h2⟩ := hA i e hi
 exact ⟨h.ok h1 k, g, o, rfl, h.range h2 h1.key k⟩
theorem Vars.hs {w w' : World} {b : Nat} {n : Int} {c : Nat} (hv : Vars w) (h : Hs w b n c) (k : Keep (fun i => i = b) w w') : Vars w' := hv.keep k (h.vars hv).1.symm (h.vars hv).2.symm
structure NdC (N : World → Int → Value → Tr → Prop) : Prop where
 nil : ∀ w n, N w n (.pointer none) .nil
 keep : ∀ {w w' : World} {n : Int} {v : Value} {t : Tr} {b : Nat} {k : Int} {c : Nat}, N w n v t → Hs w b k c → Keep (fun i => i = b) w w' → N w' n v t
 leaf : ∀ (w : World) (b : Nat) (n : Int) (c : Nat) (e : En), Hs w b n c → c ≤ 1000000 → Vars w → EnOk w e → e.v.length ≤ 1000 →
  Calls Tryz.prog 91 #[ptr b, .agg (enC e).toArray] w fun x w' => ∃ v c', x = .returned v ∧ N w' n v (.leaf e.ent) ∧ c' ≤ c + 2 ∧ Hs w' b n c' ∧ Keep (fun i => i = b) w w'
 join : ∀ (w : World) (b : Nat) (n : Int) (c : Nat) (p q : Value) (s t : Tr), Hs w b n c → c ≤ 1000000 → Vars w → N w n p s → N w n q t → lenT s + lenT t ≤ 1000000000 →
  Calls Tryz.prog 92 #[ptr b, p, q] w fun x w' => ∃ v c', x = .returned v ∧ N w' n v (joinT s t) ∧ c' ≤ c + 3 ∧ Hs w' b n c' ∧ Keep (fun i => i = b) w w'
end
section
def digT (n : Int) : Tr → List UInt8
 | .nil => digL n emptyL
 | .leaf e => digL n (leafL e.k (digL n (valL e.v)))
 | .inner a b => digL n (nodeL (digT n a) (digT n b))
theorem digT_len (n : Int) (t : Tr) : (digT n t).length = 32 := by cases t <;> exact dig_len _ _
theorem joinT_inner : ∀ (s t : Tr), 2 ≤ lenT s + lenT t → joinT s t = .inner s t
 | .nil, .nil, h => absurd h (by decide)
 | .nil, .leaf _, h => absurd h (by simp [lenT])
 | .leaf _, .nil, h => absurd h (by simp [lenT])
 | .nil, .inner _ _, _ => rfl
 | .leaf _, .leaf _, _ => rfl
 | .leaf _, .inner _ _, _ => rfl
 | .inner _ _, .nil, _ => rfl
 | .inner _ _, .leaf _, _ => rfl
 | .inner _ _, .inner _ _, _ => rfl
structure Sep (d : Int) (l : List Ent) : Prop where
 len : ∀ a ∈ l, a.k.length = 32
 ne : l.Pairwise (fun a b => a.k ≠ b.k)
 eq : ∀ a ∈ l, ∀ b ∈ l, ∀ i : Nat, (i : Int) < d → i < 256 → Bt.bit (keyF a.k) i = Bt.bit (keyF b.k) i
theorem Sep.two {d : Int} {l : List Ent} (h : Sep d l) (hl : 2 ≤ l.length) : d < 256 := by
 refine Classical.byContradiction fun hd => ?_
 match l, h, hl with
 | a :: b :: r, h, _ =>
  have h1 : a.k ≠ b.k := (List.pairwise_cons.1 h.ne).1 b (by simp)
  exact h1 (keyF_inj (h.len a (by simp)) (h.len b (by simp)) (Bt.key_ext (keyF_byt _) (keyF_byt _) fun i hi => h.eq a (by simp) b (by simp) i (by omega) hi))
theorem bitK_in (k : List UInt8) {d : Int} (h0 : 0 ≤ d) (h1 : d < 256) : bitK k d = (Bt.bit (keyF k) d.toNat : Int) := by unfold bitK Bt.bitI; rw [if_pos ⟨h0, h1⟩]
theorem Sep.part {d : Int} {l : List Ent} (h : Sep d l) (h0 : 0 ≤ d) (h1 : d < 256) (b : Int) : Sep (d + 1) (partK l d b) where
 len := fun a ha => h.len a (List.mem_filter.1 ha).1
 ne := h.ne.filter _
 eq := fun x hx y hy i hi h2 => by
  obtain ⟨hx1, hx2⟩ := List.mem_filter.1 hx
  obtain ⟨hy1, hy2⟩ := List.mem_filter.1 hy
  by_cases hd : (i : Int) < d
  ·exact h.eq x hx1 y hy1 i hd h2
  ·have e1 := of_decide_eq_true hx2
   have e2 := of_decide_eq_true hy2
   rw [bitK_in _ h0 h1, show d.toNat = i by omega] at e1 e2
   omega
theorem parts_sum (l : List Ent) {d : Int} (h0 : 0 ≤ d) (h1 : d < 256) : (partK l d 0).length + (partK l d 1).length = l.length := by
 induction l with
 | nil => rfl
 | cons x r ih =>
  unfold partK at *
  rw [List.filter_cons, List.filter_cons]
  have hb := Bt.bit_lt (keyF x.k) d.toNat
  have hk := bitK_in x.k h0 h1
  by_cases hz : bitK x.k d = 0
  ·rw [if_pos (decide_eq_true hz), if_neg (by rw [decide_eq_false (by omega)]; simp)]
   rw [List.length_cons, List.length_cons]
   omega
  ·rw [if_neg (by rw [decide_eq_false hz]; simp), if_pos (decide_eq_true (by omega))]
   rw [List.length_cons, List.length_cons]
   omega
theorem grow_both (n : Int) : ∀ (f : Nat) (l : List Ent) (d : Int), Sep d l → Deep f d l.length → lenT (growT f l d) = l.length ∧ digT n (growT f l d) = rootK f n l d := by
 have few : ∀ (f : Nat) (l : List Ent) (d : Int), l.length ≤ 1 → lenT (growT f l d) = l.length ∧ digT n (growT f l d) = rootK f n l d := by
  intro f l d hl
  match l, hl with
  | [], _ => rw [growT_none, rootK_none]; exact ⟨rfl, rfl⟩
  | [e], _ => rw [growT_one, rootK_one]; exact ⟨rfl, rfl⟩
 intro f
 induction f with
 | zero =>
  intro l d _ hd
  exact few 0 l d (by rcases hd with h | ⟨h0, h1, h2⟩ <;> omega)
 | succ f ih =>
  intro l d hs hd
  rcases Nat.lt_or_ge l.length 2 with hl | hl
  ·exact few (f + 1) l d (by omega)
  have h256 := hs.two hl
  have hd2 : 0 ≤ d ∧ 256 < d + (f + 1 : Nat) := by
   rcases hd with h | ⟨h0, h1, h2⟩
   ·omega
   ·exact ⟨h0, h2⟩
  obtain ⟨h0, h2⟩ := hd2
  have a := ih (partK l d 0) (d + 1) (hs.part h0 h256 0) (.inr ⟨by omega, by omega, by omega⟩)
  have b := ih (partK l d 1) (d + 1) (hs.part h0 h256 1) (.inr ⟨by omega, by omega, by omega⟩)
  have hsum := parts_sum l h0 h256
  rw [growT_two f l d hl, rootK_two f n l d hl, joinT_inner _ _ (by rw [a.1, b.1, hsum]; exact hl)]
  refine ⟨?_, ?_⟩
  ·show lenT _ + lenT _ = _
   rw [a.1, b.1, hsum]
  ·show digL n (nodeL (digT n _) (digT n _)) = _
   rw [a.2, b.2]
end
section
open Go.RowKit
inductive Tv where
 | nil
 | leaf (v : Value) (e : Ent)
 | inner (v : Value) (a b : Tv)
def Tv.val : Tv → Value
 | .nil => .pointer none
 | .leaf v _ => v
 | .inner v _ _ => v
def Tv.tr : Tv → Tr
 | .nil => .nil
 | .leaf _ e => .leaf e
 | .inner _ a b => .inner a.tr b.tr
def kindT : Tr → Int
 | .nil => 0
 | .leaf _ => 1
 | .inner _ _ => 2
def Tv.left : Tv → Tv
 | .inner _ a _ => a
 | _ => .nil
def Tv.right : Tv → Tv
 | .inner _ _ b => b
 | _ => .nil
def Tv.child (T : Tv) (b : Int) : Tv := if b = 0 then T.left else T.right
def Tv.way (k : List UInt8) : Tv → Nat → List Tv
 | .inner v a b, d => .inner v a b :: (if bitK k d = 0 then way k a (d + 1) else way k b (d + 1))
 | t, _ => [t]
def Tv.sibs (k : List UInt8) : Tv → Nat → List Tv
 | .inner _ a b, d => if bitK k d = 0 then b :: sibs k a (d + 1) else a :: sibs k b (d + 1)
 | _, _ => []
def Tv.fin (k : List UInt8) : Tv → Nat → Tv
 | .inner _ a b, d => if bitK k d = 0 then fin k a (d + 1) else fin k b (d + 1)
 | t, _ => t
def Tv.dep (k : List UInt8) : Tv → Nat → Nat
 | .inner _ a b, d => if bitK k d = 0 then dep k a (d + 1) else dep k b (d + 1)
 | _, d => d
theorem way_len (k : List UInt8) : ∀ (T : Tv) (d : Nat), (T.way k d).length = (T.sibs k d).length + 1
 | .nil, _ => rfl
 | .leaf _ _, _ => rfl
 | .inner v a b, d => by
  unfold Tv.way Tv.sibs
  split
  ·rw [List.length_cons, List.length_cons, way_len k a (d + 1)]
  ·rw [List.length_cons, List.length_cons, way_len k b (d + 1)]
theorem sibs_len (k : List UInt8) : ∀ (T : Tv) (d : Nat), d + (T.sibs k d).length = T.dep k d
 | .nil, _ => rfl
 | .leaf _ _, _ => rfl
 | .inner v a b, d => by
  unfold Tv.sibs Tv.dep
  split
  ·rw [List.length_cons, ← sibs_len k a (d + 1)]; omega
  ·rw [List.length_cons, ← sibs_len k b (d + 1)]; omega
theorem way_last (k : List UInt8) : ∀ (T : Tv) (d : Nat), (T.way k d)[(T.sibs k d).length]? = some (T.fin k d)
 | .nil, _ => rfl
 | .leaf _ _, _ => rfl
 | .inner v a b, d => by
  unfold Tv.way Tv.sibs Tv.fin
  split
  ·rw [List.length_cons, List.getElem?_cons_succ, way_last k a (d + 1)]
  ·rw [List.length_cons, List.getElem?_cons_succ, way_last k b (d + 1)]
def dK (l : List Ent) (k : List UInt8) : Nat → List Ent
 | 0 => l
 | i + 1 => partK (dK l k i) i (bitK k i)
def sibK (l : List Ent) (k : List UInt8) (i : Nat) : List Ent := partK (dK l k i) i (1 - bitK k i)
theorem dK_sep {l : List Ent} (h : Sep 0 l) (k : List UInt8) : ∀ i : Nat, i ≤ 256 → Sep (i : Int) (dK l k i)
 | 0, _ => h
 | i + 1, hi => by
  have := (dK_sep h k i (by omega)).part (by omega) (by omega) (bitK k i)
  exact this
theorem sibK_sep {l : List Ent} (h : Sep 0 l) (k : List UInt8) (i : Nat) (hi : i < 256) : Sep ((i : Int) + 1) (sibK l k i) := (dK_sep h k i (by omega)).part (by omega) (by omega) _
structure At (l : List Ent) (k : List UInt8) (d : Nat) (T : Tv) : Prop where
 le : d ≤ 256
 tr : T.tr = growT (257 - d) (dK l k d) d
theorem bitK_01 (k : List UInt8) (d : Nat) (h : d < 256) : bitK k d = 0 ∨ bitK k d = 1 := by
 rw [bitK_in k (by omega) (by omega)]
 have := Bt.bit_lt (keyF k) (d : Int).toNat
 omega
theorem At.inner {l : List Ent} {k : List UInt8} {d : Nat} {v : Value} {a b : Tv} (hs : Sep 0 l) (h : At l k d (.inner v a b)) :
  d < 256 ∧ 2 ≤ (dK l k d).length ∧ At l k (d + 1) (if bitK k d = 0 then a else b) ∧ (if bitK k d = 0 then b else a).tr = growT (256 - d) (sibK l k d) (d + 1) := by
 have ht := h.tr
 have hle := h.le
 have hsd := dK_sep hs k d hle
 rcases Nat.lt_or_ge (dK l k d).length 2 with hl | hl
 ·match hm : dK l k d, hl with
  | [], _ => rw [hm, growT_none] at ht; cases ht
  | [e], _ => rw [hm, growT_one] at ht; cases ht
 have h256 : d < 256 := by have := hsd.two hl; omega
 rw [show 257 - d = (256 - d) + 1 by omega, growT_two _ _ _ hl] at ht
 have g0 := grow_both 0 (256 - d) (partK (dK l k d) d 0) (d + 1) (hsd.part (by omega) (by omega) 0) (.inr ⟨by omega, by omega, by omega⟩)
 have g1 := grow_both 0 (256 - d) (partK (dK l k d) d 1) (d + 1) (hsd.part (by omega) (by omega) 1) (.inr ⟨by omega, by omega, by omega⟩)
 have hsum := parts_sum (dK l k d) (d := d) (by omega) (by omega)
 rw [joinT_inner _ _ (by rw [g0.1, g1.1]; omega)] at ht
 injection ht with hta htb
 refine ⟨h256, hl, ?_⟩
 rcases bitK_01 k d h256 with hb | hb
 ·rw [if_pos hb, if_pos hb]
  refine ⟨⟨by omega, ?_⟩, ?_⟩
  ·rw [hta, show 257 - (d + 1) = 256 - d by omega]
   show _ = growT _ (partK (dK l k d) d (bitK k d)) _
   rw [hb]
   rfl
  ·rw [htb]
   unfold sibK
   rw [hb]
   rfl
 ·rw [if_neg (by omega), if_neg (by omega)]
  refine ⟨⟨by omega, ?_⟩, ?_⟩
  ·rw [htb, show 257 - (d + 1) = 256 - d by omega]
   show _ = growT _ (partK (dK l k d) d (bitK k d)) _
   rw [hb]
   rfl
  ·rw [hta]
   unfold sibK
   rw [hb]
   rfl
theorem At.few {l : List Ent} {k : List UInt8} {d : Nat} {T : Tv} (hs : Sep 0 l) (h : At l k d T) (hk : kindT T.tr ≠ 2) : (dK l k d).length ≤ 1 := by
 have ht := h.tr
 have hle := h.le
 have hsd := dK_sep hs k d hle
 refine Classical.byContradiction fun hl => hk ?_
 have h256 : d < 256 := by have := hsd.two (by omega); omega
 rw [show 257 - d = (256 - d) + 1 by omega, growT_two _ _ _ (by omega)] at ht
 have g0 := grow_both 0 (256 - d) (partK (dK l k d) d 0) (d + 1) (hsd.part (by omega) (by omega) 0) (.inr ⟨by omega, by omega, by omega⟩)
 have g1 := grow_both 0 (256 - d) (partK (dK l k d) d 1) (d + 1) (hsd.part (by omega) (by omega) 1) (.inr ⟨by omega, by omega, by omega⟩)
 have hsum := parts_sum (dK l k d) (d := d) (by omega) (by omega)
 rw [joinT_inner _ _ (by rw [g0.1, g1.1]; omega)] at ht
 rw [ht]
 rfl
theorem At.nil {l : List Ent} {k : List UInt8} {d : Nat} {T : Tv} (h : At l k d T) (hl : dK l k d = []) : T.tr = .nil := by rw [h.tr, hl, growT_none]
end
section
open Go.RowKit
theorem At.fin {l : List Ent} {k : List UInt8} (hs : Sep 0 l) : ∀ (T : Tv) (d : Nat), At l k d T →
  At l k (T.dep k d) (T.fin k d) ∧ kindT (T.fin k d).tr ≠ 2 ∧ (∀ j, d ≤ j → j < T.dep k d → 2 ≤ (dK l k j).length)
 | .nil, d, h => ⟨h, by show (0 : Int) ≠ 2; decide, fun j h1 h2 => absurd h2 (by show ¬ j < d; omega)⟩
 | .leaf v e, d, h => ⟨h, by show (1 : Int) ≠ 2; decide, fun j h1 h2 => absurd h2 (by show ¬ j < d; omega)⟩
 | .inner v a b, d, h => by
  obtain ⟨h256, h2, hc, _⟩ := h.inner hs
  unfold Tv.fin Tv.dep
  by_cases hb : bitK k d = 0
  ·rw [if_pos hb] at hc
   rw [if_pos hb, if_pos hb]
   obtain ⟨i1, i2, i3⟩ := At.fin hs a (d + 1) hc
   refine ⟨i1, i2, fun j h1 h3 => ?_⟩
   rcases Nat.eq_or_lt_of_le h1 with rfl | h1
   ·exact h2
   ·exact i3 j h1 h3
  ·rw [if_neg hb] at hc
   rw [if_neg hb, if_neg hb]
   obtain ⟨i1, i2, i3⟩ := At.fin hs b (d + 1) hc
   refine ⟨i1, i2, fun j h1 h3 => ?_⟩
   rcases Nat.eq_or_lt_of_le h1 with rfl | h1
   ·exact h2
   ·exact i3 j h1 h3
theorem At.way {l : List Ent} {k : List UInt8} (hs : Sep 0 l) : ∀ (T : Tv) (d : Nat), At l k d T → ∀ (i : Nat) (T' : Tv), (T.way k d)[i]? = some T' → At l k (d + i) T'
 | .nil, d, h, i, T', hi => by
  cases i with
  | zero => cases hi; exact h
  | succ i => cases hi
 | .leaf v e, d, h, i, T', hi => by
  cases i with
  | zero => cases hi; exact h
  | succ i => cases hi
 | .inner v a b, d, h, i, T', hi => by
  obtain ⟨h256, h2, hc, _⟩ := h.inner hs
  unfold Tv.way at hi
  cases i with
  | zero => cases hi; exact h
  | succ i =>
   rw [List.getElem?_cons_succ] at hi
   rw [show d + (i + 1) = d + 1 + i by omega]
   by_cases hb : bitK k d = 0
   ·rw [if_pos hb] at hc hi
    exact At.way hs a (d + 1) hc i T' hi
   ·rw [if_neg hb] at hc hi
    exact At.way hs b (d + 1) hc i T' hi
structure SibAt (l : List Ent) (k : List UInt8) (i : Nat) (S : Tv) : Prop where
 lt : i < 256
 tr : S.tr = growT (256 - i) (sibK l k i) ((i : Int) + 1)
theorem At.sib {l : List Ent} {k : List UInt8} (hs : Sep 0 l) (T : Tv) : ∀ (d : Nat), At l k d T → ∀ (i : Nat) (S : Tv), (T.sibs k d)[i]? = some S → SibAt l k (d + i) S := by
 induction T with
 | nil => intro d _ i S hi; unfold Tv.sibs at hi; simp at hi
 | leaf v e => intro d _ i S hi; unfold Tv.sibs at hi; simp at hi
 | inner v a b iha ihb =>
  intro d h i S hi
  obtain ⟨h256, h2, hc, ht⟩ := h.inner hs
  unfold Tv.sibs at hi
  by_cases hb : bitK k d = 0
  ·rw [if_pos hb] at hc hi ht
   cases i with
   | zero =>
    rw [List.getElem?_cons_zero] at hi
    rw [← Option.some.inj hi]
    exact ⟨h256, ht⟩
   | succ i =>
    rw [List.getElem?_cons_succ] at hi
    rw [show d + (i + 1) = d + 1 + i by omega]
    exact iha (d + 1) hc i S hi
  ·rw [if_neg hb] at hc hi ht
   cases i with
   | zero =>
    rw [List.getElem?_cons_zero] at hi
    rw [← Option.some.inj hi]
    exact ⟨h256, ht⟩
   | succ i =>
    rw [List.getElem?_cons_succ] at hi
    rw [show d + (i + 1) = d + 1 + i by omega]
    exact ihb (d + 1) hc i S hi
theorem At.top {l : List Ent} {T : Tv} (k : List UInt8) (h : T.tr = growT 257 l 0) : At l k 0 T := ⟨by decide, h⟩
theorem sib_both {l : List Ent} {k : List UInt8} (hs : Sep 0 l) {T : Tv} (hT : At l k 0 T) {i : Nat} {S : Tv} (hi : (T.sibs k 0)[i]? = some S) (n : Int) :
  i < 256 ∧ lenT S.tr = (sibK l k i).length ∧ digT n S.tr = rootK (256 - i) n (sibK l k i) (i + 1) := by
 obtain ⟨h1, h2⟩ := At.sib hs T 0 hT i S hi
 rw [Nat.zero_add] at h1 h2
 obtain ⟨h3, h4⟩ := grow_both n (256 - i) (sibK l k i) (i + 1) (sibK_sep hs k i h1) (.inr ⟨by omega, by omega, by omega⟩)
 rw [h2]
 exact ⟨h1, h3, h4⟩
theorem dep_le {l : List Ent} {k : List UInt8} (hs : Sep 0 l) {T : Tv} (hT : At l k 0 T) : T.dep k 0 ≤ 256 := (At.fin hs T 0 hT).1.le
theorem dK_mem {l : List Ent} {k : List UInt8} {e : Ent} : ∀ {i : Nat}, e ∈ dK l k i ↔ e ∈ l ∧ ∀ j, j < i → bitK e.k j = bitK k j
 | 0 => ⟨fun h => ⟨h, fun j hj => absurd hj (Nat.not_lt_zero j)⟩, fun h => h.1⟩
 | i + 1 => by
  constructor
  ·intro h
   obtain ⟨h1, h2⟩ := List.mem_filter.1 h
   obtain ⟨h3, h4⟩ := dK_mem.1 h1
   refine ⟨h3, fun j hj => ?_⟩
   rcases Nat.eq_or_lt_of_le (Nat.lt_succ_iff.1 hj) with rfl | hj
   ·exact of_decide_eq_true h2
   ·exact h4 j hj
  ·rintro ⟨h1, h2⟩
   exact List.mem_filter.2 ⟨dK_mem.2 ⟨h1, fun j hj => h2 j (by omega)⟩, decide_eq_true (h2 i (by omega))⟩
def comK (a b : List UInt8) : Nat := Bt.common (keyF a) (keyF b)
def Tv.under (k : List UInt8) (b : Nat) (T : Tv) : Tv :=
 match (T.way k 0)[b]? with
 | some S => S
 | none => match T.fin k 0 with
  | .leaf v e => if b ≤ comK e.k k then .leaf v e else .nil
  | _ => .nil
end
end Go.Proofs.YtjgdindjimbfeaaGreatDoor
