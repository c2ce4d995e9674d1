import Derived.Test.YtkejfdgmdjfdoaaGreatDoorG4
import Derived.Test.YtkejfdgmdjfdoaaGreatDoorG5
import Derived.Test.YtkejfdgmdjfdoaaGreatDoorM5
import Derived.Test.YtkejfdgmdjfdoaaGreatDoorMw
namespace Go.Proofs.YtkejfdgmdjfdoaaGreatDoor
set_option linter.unusedSimpArgs false
set_option linter.unusedVariables false
section
open Go.RowKit
inductive Tr where
 | nil
 | leaf (e : Ent)
 | inner (a b : Tr)
def joinT : Tr → Tr → Tr
 | .nil, .nil => .nil
 | .nil, .leaf e => .leaf e
 | .leaf e, .nil => .leaf e
 | a, b => .inner a b
def growT : Nat → List Ent → Int → Tr
 | 0, l, _ => match l with
  | [] => .nil
  | e :: _ => .leaf e
 | f + 1, l, d => match l with
  | [] => .nil
  | [e] => .leaf e
  | _ :: _ :: _ => joinT (growT f (partK l d 0) (d + 1)) (growT f (partK l d 1) (d + 1))
def lenT : Tr → Nat
 | .nil => 0
 | .leaf _ => 1
 | .inner a b => lenT a + lenT b
theorem lenT_join : ∀ (s t : Tr), lenT (joinT s t) = lenT s + lenT t
 | .nil, .nil => rfl
 | .nil, .leaf _ => by simp [joinT, lenT]
 | .leaf _, .nil => by simp [joinT, lenT]
 | .nil, .inner _ _ => rfl
 | .leaf _, .leaf _ => rfl
 | .leaf _, .inner _ _ => rfl
 | .inner _ _, .nil => rfl
 | .inner _ _, .leaf _ => rfl
 | .inner _ _, .inner _ _ => rfl
theorem growT_none (f : Nat) (d : Int) : growT f [] d = .nil := by cases f <;> rfl
theorem growT_one (f : Nat) (e : Ent) (d : Int) : growT f [e] d = .leaf e := by cases f <;> rfl
theorem growT_two (f : Nat) (l : List Ent) (d : Int) (h : 2 ≤ l.length) : growT (f + 1) l d = joinT (growT f (partK l d 0) (d + 1)) (growT f (partK l d 1) (d + 1)) := by
 match l, h with
 | _ :: _ :: _, _ => rfl
theorem partK_two (l : List Ent) (d : Int) : (partK l d 0).length + (partK l d 1).length ≤ l.length := by
 induction l with
 | nil => exact Nat.le_refl _
 | cons x r ih =>
  unfold partK at *
  rw [List.filter_cons, List.filter_cons]
  by_cases h0 : bitK x.k d = 0
  ·rw [if_pos (decide_eq_true h0), if_neg (by rw [decide_eq_false (by omega)]; simp)]
   rw [List.length_cons, List.length_cons]
   omega
  ·rw [if_neg (by rw [decide_eq_false h0]; simp)]
   split
   ·rw [List.length_cons, List.length_cons]; omega
   ·rw [List.length_cons]; omega
theorem growT_len : ∀ (f : Nat) (l : List Ent) (d : Int), lenT (growT f l d) ≤ l.length := by
 have few : ∀ (f : Nat) (l : List Ent) (d : Int), l.length ≤ 1 → lenT (growT f l d) ≤ l.length := by
  intro f l d hl
  match l, hl with
  | [], _ => rw [growT_none]; exact Nat.le_refl _
  | [e], _ => rw [growT_one]; exact Nat.le_refl _
 intro f
 induction f with
 | zero =>
  intro l d
  match l with
  | [] => exact Nat.le_refl _
  | e :: r => show 1 ≤ (e :: r).length; rw [List.length_cons]; omega
 | succ f ih =>
  intro l d
  rcases Nat.lt_or_ge l.length 2 with hl | hl
  ·exact few (f + 1) l d (by omega)
  ·rw [growT_two f l d hl, lenT_join]
   have a := ih (partK l d 0) (d + 1)
   have b := ih (partK l d 1) (d + 1)
   have c := partK_two l d
   omega
theorem Hs.range {w w' : World} {b : Nat} {n : Int} {c : Nat} {g o : Nat} {e : En} (h : Hs w b n c) (hr : w.rangeAt g o (enC e)) (hk : e.k.length = 32) (k : Keep (fun i => i = b) w w') : w'.rangeAt g o (enC e) := by
 have hg : g ≠ b := by
  rintro rfl
  have h1 := hr 0 (bv (e.k.getD 0 0)) (by
   unfold enC
   rw [List.getElem?_append_left (by rw [List.length_map, hk]; decide), List.getElem?_map, List.getD_eq_getElem?_getD, List.getElem?_eq_getElem (by omega)]
   rfl)
  rw [cell_of_cells h, Nat.add_zero] at h1
  match o, h1 with
  | 0, h1 => cases h1
  | 1, h1 => cases h1
  | q + 2, h1 => simp at h1
 intro j v hv
 exact k.cellAt (hr j v hv) hg
theorem Hs.ok {w w' : World} {b : Nat} {n : Int} {c : Nat} {e : En} (h : Hs w b n c) (he : EnOk w e) (k : Keep (fun i => i = b) w w') : EnOk w' e := ⟨he.key, he.cap, h.ba he.val k⟩
theorem Hs.ea {w w' : World} {b : Nat} {n : Int} {c : Nat} {A : Option Addr} {es : List En} (h : Hs w b n c) (hA : EA w A es) (k : Keep (fun i => i = b) w w') : EA w' A es := fun i e hi => by
 obtain ⟨h1, g, o, rfl, h2⟩ := hA i e hi
 exact ⟨h.ok h1 k, g, o, rfl, h.range h2 h1.key k⟩
theorem Vars.hs {w w' : World} {b : Nat} {n : Int} {c : Nat} (hv : Vars w) (h : Hs w b n c) (k : Keep (fun i => i = b) w w') : Vars w' := hv.keep k (h.vars hv).1.symm (h.vars hv).2.symm
structure NdC (N : World → Int → Value → Tr → Prop) : Prop where
 nil : ∀ w n, N w n (.pointer none) .nil
 keep : ∀ {w w' : World} {n : Int} {v : Value} {t : Tr} {b : Nat} {k : Int} {c : Nat}, N w n v t → Hs w b k c → Keep (fun i => i = b) w w' → N w' n v t
 leaf : ∀ (w : World) (b : Nat) (n : Int) (c : Nat) (e : En), Hs w b n c → c ≤ 100000000 → Vars w → EnOk w e → e.v.length ≤ 70000 →
  Calls Tryz.prog 98 #[ptr b, .agg (enC e).toArray] w fun x w' => ∃ v c', x = .returned v ∧ N w' n v (.leaf e.ent) ∧ c' ≤ c + 2 ∧ Hs w' b n c' ∧ Keep (fun i => i = b) w w'
 join : ∀ (w : World) (b : Nat) (n : Int) (c : Nat) (p q : Value) (s t : Tr), Hs w b n c → c ≤ 100000000 → Vars w → N w n p s → N w n q t → lenT s + lenT t ≤ 1000000000 →
  Calls Tryz.prog 113 #[ptr b, p, q] w fun x w' => ∃ v c', x = .returned v ∧ N w' n v (joinT s t) ∧ c' ≤ c + 3 ∧ Hs w' b n c' ∧ Keep (fun i => i = b) w w'
end
section
def digT (n : Int) : Tr → List UInt8
 | .nil => digL n emptyL
 | .leaf e => digL n (leafL e.k (digL n (valL e.v)))
 | .inner a b => digL n (nodeL (digT n a) (digT n b))
theorem digT_len (n : Int) (t : Tr) : (digT n t).length = 32 := by cases t <;> exact dig_len _ _
theorem joinT_inner : ∀ (s t : Tr), 2 ≤ lenT s + lenT t → joinT s t = .inner s t
 | .nil, .nil, h => absurd h (by decide)
 | .nil, .leaf _, h => absurd h (by simp [lenT])
 | .leaf _, .nil, h => absurd h (by simp [lenT])
 | .nil, .inner _ _, _ => rfl
 | .leaf _, .leaf _, _ => rfl
 | .leaf _, .inner _ _, _ => rfl
 | .inner _ _, .nil, _ => rfl
 | .inner _ _, .leaf _, _ => rfl
 | .inner _ _, .inner _ _, _ => rfl
structure Sep (d : Int) (l : List Ent) : Prop where
 len : ∀ a ∈ l, a.k.length = 32
 ne : l.Pairwise (fun a b => a.k ≠ b.k)
 eq : ∀ a ∈ l, ∀ b ∈ l, ∀ i : Nat, (i : Int) < d → i < 256 → Bt.bit (keyF a.k) i = Bt.bit (keyF b.k) i
theorem Sep.two {d : Int} {l : List Ent} (h : Sep d l) (hl : 2 ≤ l.length) : d < 256 := by
 refine Classical.byContradiction fun hd => ?_
 match l, h, hl with
 | a :: b :: r, h, _ =>
  have h1 : a.k ≠ b.k := (List.pairwise_cons.1 h.ne).1 b (by simp)
  exact h1 (keyF_inj (h.len a (by simp)) (h.len b (by simp)) (Bt.key_ext (keyF_byt _) (keyF_byt _) fun i hi => h.eq a (by simp) b (by simp) i (by omega) hi))
theorem bitK_in (k : List UInt8) {d : Int} (h0 : 0 ≤ d) (h1 : d < 256) : bitK k d = (Bt.bit (keyF k) d.toNat : Int) := by unfold bitK Bt.bitI; rw [if_pos ⟨h0, h1⟩]
theorem Sep.part {d : Int} {l : List Ent} (h : Sep d l) (h0 : 0 ≤ d) (h1 : d < 256) (b : Int) : Sep (d + 1) (partK l d b) where
 len := fun a ha => h.len a (List.mem_filter.1 ha).1
 ne := h.ne.filter _
 eq := fun x hx y hy i hi h2 => by
  obtain ⟨hx1, hx2⟩ := List.mem_filter.1 hx
  obtain ⟨hy1, hy2⟩ := List.mem_filter.1 hy
  by_cases hd : (i : Int) < d
  ·exact h.eq x hx1 y hy1 i hd h2
  ·have e1 := of_decide_eq_true hx2
   have e2 := of_decide_eq_true hy2
   rw [bitK_in _ h0 h1, show d.toNat = i by omega] at e1 e2
   omega
theorem parts_sum (l : List Ent) {d : Int} (h0 : 0 ≤ d) (h1 : d < 256) : (partK l d 0).length + (partK l d 1).length = l.length := by
 induction l with
 | nil => rfl
 | cons x r ih =>
  unfold partK at *
  rw [List.filter_cons, List.filter_cons]
  have hb := Bt.bit_lt (keyF x.k) d.toNat
  have hk := bitK_in x.k h0 h1
  by_cases hz : bitK x.k d = 0
  ·rw [if_pos (decide_eq_true hz), if_neg (by rw [decide_eq_false (by omega)]; simp)]
   rw [List.length_cons, List.length_cons]
   omega
  ·rw [if_neg (by rw [decide_eq_false hz]; simp), if_pos (decide_eq_true (by omega))]
   rw [List.length_cons, List.length_cons]
   omega
theorem grow_both (n : Int) : ∀ (f : Nat) (l : List Ent) (d : Int), Sep d l → Deep f d l.length → lenT (growT f l d) = l.length ∧ digT n (growT f l d) = rootK f n l d := by
 have few : ∀ (f : Nat) (l : List Ent) (d : Int), l.length ≤ 1 → lenT (growT f l d) = l.length ∧ digT n (growT f l d) = rootK f n l d := by
  intro f l d hl
  match l, hl with
  | [], _ => rw [growT_none, rootK_none]; exact ⟨rfl, rfl⟩
  | [e], _ => rw [growT_one, rootK_one]; exact ⟨rfl, rfl⟩
 intro f
 induction f with
 | zero =>
  intro l d _ hd
  exact few 0 l d (by rcases hd with h | ⟨h0, h1, h2⟩ <;> omega)
 | succ f ih =>
  intro l d hs hd
  rcases Nat.lt_or_ge l.length 2 with hl | hl
  ·exact few (f + 1) l d (by omega)
  have h256 := hs.two hl
  have hd2 : 0 ≤ d ∧ 256 < d + (f + 1 : Nat) := by
   rcases hd with h | ⟨h0, h1, h2⟩
   ·omega
   ·exact ⟨h0, h2⟩
  obtain ⟨h0, h2⟩ := hd2
  have a := ih (partK l d 0) (d + 1) (hs.part h0 h256 0) (.inr ⟨by omega, by omega, by omega⟩)
  have b := ih (partK l d 1) (d + 1) (hs.part h0 h256 1) (.inr ⟨by omega, by omega, by omega⟩)
  have hsum := parts_sum l h0 h256
  rw [growT_two f l d hl, rootK_two f n l d hl, joinT_inner _ _ (by rw [a.1, b.1, hsum]; exact hl)]
  refine ⟨?_, ?_⟩
  ·show lenT _ + lenT _ = _
   rw [a.1, b.1, hsum]
  ·show digL n (nodeL (digT n _) (digT n _)) = _
   rw [a.2, b.2]
end
section
open Go.RowKit
theorem right5_c (n : Int) (w : World) : Calls Tryz.prog 10 #[.int .i64 n] w fun e w' => e = .returned (.bool (decide (0 ≤ n ∧ n ≤ 256))) ∧ w = w' := by
 rcases Classical.em (0 ≤ n) with a | a
 ·have d1 : decide (0 ≤ n) = true := decide_eq_true a
  rcases Classical.em (n ≤ 256) with b | b
  ·have d2 : decide (n ≤ 256) = true := decide_eq_true b
   have d3 : decide (0 ≤ n ∧ n ≤ 256) = true := decide_eq_true ⟨a, b⟩
   rw [d3]
   clear d3
   go_enter Tryz.func10, Tryz.ntmps10
   go_wp2_with fail
   go_ret
   exact ⟨rfl, rfl⟩
  ·have d2 : decide (n ≤ 256) = false := decide_eq_false b
   have d3 : decide (0 ≤ n ∧ n ≤ 256) = false := decide_eq_false fun h => b h.2
   rw [d3]
   clear d3
   go_enter Tryz.func10, Tryz.ntmps10
   go_wp2_with fail
   go_ret
   exact ⟨rfl, rfl⟩
 ·have d1 : decide (0 ≤ n) = false := decide_eq_false a
  have d3 : decide (0 ≤ n ∧ n ≤ 256) = false := decide_eq_false fun h => a h.1
  rw [d3]
  clear d3
  go_enter Tryz.func10, Tryz.ntmps10
  go_wp2_with fail
  go_ret
  exact ⟨rfl, rfl⟩
end
section
open Go.RowKit
def Aye (W : World) (e : Ending) (w' : World) : Prop := e = .returned (.bool true) ∧ Below W.heap.size W w'
theorem keep_new {W w w' : World} {b : Nat} (hB : Below W.heap.size W w) (hb : W.heap.size ≤ b) (k : Keep (fun i => i = b) w w') : Below W.heap.size W w' := hB.trans (k.below hB.size fun i hi => by have e : i = b := hi; omega)
end
section
open Go.RowKit
end
section
open Go.RowKit
end
end Go.Proofs.YtkejfdgmdjfdoaaGreatDoor
