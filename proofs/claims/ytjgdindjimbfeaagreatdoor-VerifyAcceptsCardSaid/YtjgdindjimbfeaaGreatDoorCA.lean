import Derived.Test.YtjgdindjimbfeaaGreatDoorAA
import Derived.Test.YtjgdindjimbfeaaGreatDoorAD
import Derived.Test.YtjgdindjimbfeaaGreatDoorME
import Derived.Laws.AppendOwn
namespace Go.Proofs.YtjgdindjimbfeaaGreatDoor
set_option linter.unusedSimpArgs false
set_option linter.unusedVariables false
section
open Go.RowKit
def endP (p : Pf) : List UInt8 := if p.kind = 1 then 0 :: p.lf else emptyL
def stepN (k : List UInt8) (d : Nat) (b s : List UInt8) : List UInt8 := if bitK k d = 1 then nodeL s b else nodeL b s
def preF (n : Int) (e : List UInt8) (X : List (List UInt8)) (k : List UInt8) (D : Nat) : Nat → List UInt8
 | 0 => e
 | i + 1 => stepN k (D - 1 - i) (digL n (preF n e X k D i)) (X.getD (D - 1 - i) [])
def preB (n : Int) (e : List UInt8) (X : List (List UInt8)) (k : List UInt8) (D : Nat) : Nat → List (List UInt8)
 | 0 => [e]
 | i + 1 => preF n e X k D (i + 1) :: preB n e X k D i
def stpB (n : Int) (e : List UInt8) (X : List (List UInt8)) (k : List UInt8) (D : Nat) : Nat → List (List UInt8)
 | 0 => [digL n e]
 | i + 1 => stpB n e X k D i ++ [digL n (preF n e X k D (i + 1))]
def sidX (n : Int) (p : Pf) : List (List UInt8) := expL n p.bm p.sib p.dep.toNat
def preL (n : Int) (p : Pf) (k : List UInt8) : List (List UInt8) := preB n (endP p) (sidX n p) k p.dep.toNat p.dep.toNat
def stepL (n : Int) (p : Pf) (k : List UInt8) : List (List UInt8) := stpB n (endP p) (sidX n p) k p.dep.toNat p.dep.toNat
def rootP (n : Int) (p : Pf) (k : List UInt8) : List UInt8 := digL n (preF n (endP p) (sidX n p) k p.dep.toNat p.dep.toNat)
theorem preB_len (n : Int) (e : List UInt8) (X : List (List UInt8)) (k : List UInt8) (D : Nat) : ∀ i, (preB n e X k D i).length = i + 1
 | 0 => rfl
 | i + 1 => by unfold preB; rw [List.length_cons, preB_len n e X k D i]
theorem stpB_len (n : Int) (e : List UInt8) (X : List (List UInt8)) (k : List UInt8) (D : Nat) : ∀ i, (stpB n e X k D i).length = i + 1
 | 0 => rfl
 | i + 1 => by unfold stpB; rw [List.length_append, stpB_len n e X k D i]; rfl
theorem stpB_last (n : Int) (e : List UInt8) (X : List (List UInt8)) (k : List UInt8) (D : Nat) : ∀ i, (stpB n e X k D i)[i]? = some (digL n (preF n e X k D i))
 | 0 => rfl
 | i + 1 => by
  unfold stpB
  rw [List.getElem?_append_right (by rw [stpB_len]; exact Nat.le_refl _), stpB_len, Nat.sub_self]; rfl
theorem stpB_mem (n : Int) (e : List UInt8) (X : List (List UInt8)) (k : List UInt8) (D : Nat) : ∀ i, ∀ s ∈ stpB n e X k D i, s.length = 32
 | 0, s, h => by rw [List.mem_singleton.1 h]; exact dig_len _ _
 | i + 1, s, h => by
  unfold stpB at h
  rcases List.mem_append.1 h with h | h
  ·exact stpB_mem n e X k D i s h
  ·rw [List.mem_singleton.1 h]; exact dig_len _ _
theorem stepL_len {n : Int} {p : Pf} {k : List UInt8} : (stepL n p k).length = p.dep.toNat + 1 := stpB_len ..
theorem stepL_last (n : Int) (p : Pf) (k : List UInt8) : (stepL n p k)[p.dep.toNat]? = some (rootP n p k) := stpB_last ..
theorem endP_len {p : Pf} (hp : p.Ok) : (endP p).length ≤ 65 := by
 unfold endP
 split
 ·rw [List.length_cons, hp.lf]; exact Nat.le_refl _
 ·show 1 ≤ 65; omega
theorem stepN_len {k : List UInt8} {d : Nat} {b s : List UInt8} (hb : b.length = 32) (hs : s.length = 32) : (stepN k d b s).length = 65 := by
 unfold stepN
 split
 ·show (1 :: (s ++ b)).length = 65; rw [List.length_cons, List.length_append, hb, hs]
 ·show (1 :: (b ++ s)).length = 65; rw [List.length_cons, List.length_append, hb, hs]
theorem leaf_lf {l : List UInt8} : leafL (l.take 32) (l.drop 32) = 0 :: l := by unfold leafL; rw [List.take_append_drop]
end
section
open Go.RowKit
def Hd16 (w : World) (v : Value) (l : List UInt8) : Prop := ∃ A c, v = .slice A l.length c ∧ BA w A l ∧ l.length ≤ c
def PS (w : World) (A : Option Addr) (ls : List (List UInt8)) : Prop := ∀ i l, ls[i]? = some l → ∃ g o v, A = some ⟨g, o, none⟩ ∧ w.cell? ⟨g, o + i, none⟩ = some v ∧ Hd16 w v l
theorem Hd16.below {w w' : World} {v : Value} {l : List UInt8} (h : Hd16 w v l) (hb : Below w.heap.size w w') : Hd16 w' v l := by
 obtain ⟨A, c, e, h1, h2⟩ := h
 exact ⟨A, c, e, h1.below hb, h2⟩
theorem PS.below {w w' : World} {A : Option Addr} {ls : List (List UInt8)} (h : PS w A ls) (hb : Below w.heap.size w w') : PS w' A ls := fun i l hi => by
 obtain ⟨g, o, v, e, h1, h2⟩ := h i l hi
 refine ⟨g, o, v, e, ?_, h2.below hb⟩
 rw [hb.cell (show (⟨g, o + i, none⟩ : Addr).block < w.heap.size from lt_of_cell h1)]; exact h1
theorem BA.hs16 {w w' : World} {b : Nat} {n : Int} {c : Nat} {A : Option Addr} {l : List UInt8} (hA : BA w A l) (h : Hs w b n c) (k : Keep (fun i => i = b) w w') : BA w' A l := fun j x hj => by
 obtain ⟨g, o, rfl, h3⟩ := hA j x hj
 refine ⟨g, o, rfl, k.cellAt h3 fun e => ?_⟩
 have e3 : g = b := e
 subst e3
 rw [cell_of_cells h] at h3
 obtain ⟨q, hq⟩ : ∃ q, q = o + j := ⟨_, rfl⟩
 rw [← hq] at h3
 match q, h3 with
 | 0, h3 => cases h3
 | 1, h3 => cases h3
 | q + 2, h3 => simp at h3
theorem PS.hs {w w' : World} {b : Nat} {n : Int} {c : Nat} {A : Option Addr} {ls : List (List UInt8)} (hA : PS w A ls) (h : Hs w b n c) (k : Keep (fun i => i = b) w w') : PS w' A ls := fun i l hi => by
 obtain ⟨g, o, v, rfl, h3, A', c', rfl, h4, h5⟩ := hA i l hi
 refine ⟨g, o, _, rfl, k.cellAt h3 fun e => ?_, A', c', rfl, h4.hs16 h k, h5⟩
 have e3 : g = b := e
 subst e3
 rw [cell_of_cells h] at h3
 obtain ⟨q, hq⟩ : ∃ q, q = o + i := ⟨_, rfl⟩
 rw [← hq] at h3
 match q, h3 with
 | 0, h3 => cases h3
 | 1, h3 => cases h3
 | q + 2, h3 => simp at h3
structure FoV : Prop where
 steps : ∀ (w : World) (b : Nat) (n : Int) (m : Nat) (p : Pf) (A : Option Addr) (c : Nat) (k : List UInt8), Hs w b n m → m ≤ 500000 → Vars w → p.Ok → DS w A p.sib → p.sib.length ≤ c → p.sib.length ≤ 1000000 → k.length = 32 → chkP p = 0 →
  Calls Tryz.prog 140 #[ptr b, .agg (pfC p (.slice A p.sib.length c)), .agg (bA k)] w fun e w' => ∃ A' c' m', e = .returned (.tuple #[.slice A' (stepL n p k).length c', .int .i64 0]) ∧ NewD w' w.heap.size A' c' (stepL n p k) ∧ m' ≤ m + (p.dep.toNat + 2) ∧ Hs w' b n m' ∧ Keep (fun i => i = b) w w'
 stepsBad : ∀ (w : World) (b : Nat) (n : Int) (m : Nat) (p : Pf) (A : Option Addr) (c : Nat) (k : List UInt8), Hs w b n m → m ≤ 500000 → Vars w → p.Ok → DS w A p.sib → p.sib.length ≤ c → p.sib.length ≤ 1000000 → k.length = 32 → chkP p ≠ 0 →
  Calls Tryz.prog 140 #[ptr b, .agg (pfC p (.slice A p.sib.length c)), .agg (bA k)] w fun e w' => ∃ A' c' m', e = .returned (.tuple #[.slice A' 0 c', .int .i64 (chkP p)]) ∧ m' ≤ m + 1000 ∧ Hs w' b n m' ∧ Keep (fun i => i = b) w w'
 root : ∀ (w : World) (b : Nat) (n : Int) (m : Nat) (p : Pf) (A : Option Addr) (c : Nat) (k : List UInt8), Hs w b n m → m ≤ 500000 → Vars w → p.Ok → DS w A p.sib → p.sib.length ≤ c → p.sib.length ≤ 1000000 → k.length = 32 → chkP p = 0 →
  Calls Tryz.prog 109 #[ptr b, .agg (pfC p (.slice A p.sib.length c)), .agg (bA k)] w fun e w' => ∃ m', e = .returned (.tuple #[.agg (bA (rootP n p k)), .int .i64 0]) ∧ m' ≤ m + (p.dep.toNat + 2) ∧ Hs w' b n m' ∧ Keep (fun i => i = b) w w'
 rootBad : ∀ (w : World) (b : Nat) (n : Int) (m : Nat) (p : Pf) (A : Option Addr) (c : Nat) (k : List UInt8), Hs w b n m → m ≤ 500000 → Vars w → p.Ok → DS w A p.sib → p.sib.length ≤ c → p.sib.length ≤ 1000000 → k.length = 32 → chkP p ≠ 0 →
  Calls Tryz.prog 109 #[ptr b, .agg (pfC p (.slice A p.sib.length c)), .agg (bA k)] w fun e w' => ∃ m', e = .returned (.tuple #[.agg (bA z26), .int .i64 (chkP p)]) ∧ m' ≤ m + 1000 ∧ Hs w' b n m' ∧ Keep (fun i => i = b) w w'
end
section
open Go.RowKit
theorem preB_at (n : Int) (e : List UInt8) (X : List (List UInt8)) (k : List UInt8) (D : Nat) : ∀ i j, j ≤ i → (preB n e X k D i)[i - j]? = some (preF n e X k D j)
 | 0, j, h => by
  obtain rfl : j = 0 := by omega
  rfl
 | i + 1, j, h => by
  unfold preB
  by_cases e : j = i + 1
  ·subst e; rw [Nat.sub_self]; rfl
  ·rw [show i + 1 - j = (i - j) + 1 by omega, List.getElem?_cons_succ]
   exact preB_at n _ X k D i j (by omega)
def stpC (n : Int) (e : List UInt8) (X : List (List UInt8)) (k : List UInt8) (D : Nat) : Nat → List (List UInt8)
 | 0 => []
 | i + 1 => stpC n e X k D i ++ [digL n (preF n e X k D i)]
theorem stpC_B (n : Int) (e : List UInt8) (X : List (List UInt8)) (k : List UInt8) (D : Nat) : ∀ i, stpC n e X k D (i + 1) = stpB n e X k D i
 | 0 => rfl
 | i + 1 => by
  show stpC n e X k D (i + 1) ++ [_] = stpB n e X k D i ++ [_]
  rw [stpC_B n e X k D i]
theorem stpC_len (n : Int) (e : List UInt8) (X : List (List UInt8)) (k : List UInt8) (D : Nat) : ∀ i, (stpC n e X k D i).length = i
 | 0 => rfl
 | i + 1 => by unfold stpC; rw [List.length_append, stpC_len n e X k D i]; rfl
theorem preF_len {n : Int} {e : List UInt8} {X : List (List UInt8)} {k : List UInt8} {D : Nat} (he : e.length ≤ 65) (hX : ∀ s ∈ X, s.length = 32) (hD : D ≤ X.length) : ∀ i, i ≤ D → (preF n e X k D i).length ≤ 65
 | 0, _ => he
 | i + 1, hi => by
  show (stepN k _ _ _).length ≤ 65
  rw [stepN_len (dig_len _ _) (hX _ (by rw [List.getD_eq_getElem?_getD, List.getElem?_eq_getElem (show D - 1 - i < X.length by omega)]; exact List.getElem_mem _))]
  exact Nat.le_refl _
theorem infoS16 : (Tryz.prog.info? 22).map (fun i => (i.zero, i.size, i.bytes)) = some (some (.slice none 0 0), 1, 24) := by kernel_rfl
theorem hd_one {w : World} {v : Value} {l : List UInt8} (h : Hd16 w v l) : v.oneCell' = true := by
 obtain ⟨A, c, rfl, _⟩ := h
 rfl
theorem ps_list {w : World} {A : Option Addr} {ls : List (List UInt8)} (h : PS w A ls) (hne : ls ≠ []) : ∃ (g o : Nat) (hs : List Value), A = some ⟨g, o, none⟩ ∧ hs.length = ls.length ∧ (∀ (j : Nat) (v : Value), hs[j]? = some v → w.cell? ⟨g, o + j, none⟩ = some v) ∧ ∀ (j : Nat) (v : Value) (l : List UInt8), hs[j]? = some v → ls[j]? = some l → Hd16 w v l := by
 obtain ⟨l0, hl0⟩ : ∃ l0, ls[0]? = some l0 := by
  cases ls with
  | nil => exact absurd rfl hne
  | cons a r => exact ⟨a, rfl⟩
 obtain ⟨g, o, _, e, _, _⟩ := h 0 l0 hl0
 have each : ∀ j, j < ls.length → ∃ v, w.cell? ⟨g, o + j, none⟩ = some v ∧ ∀ l, ls[j]? = some l → Hd16 w v l := fun j hj => by
  obtain ⟨g', o', v, e', h1, h2⟩ := h j ls[j] (List.getElem?_eq_getElem hj)
  rw [e] at e'
  cases e'
  refine ⟨v, h1, fun l hl => ?_⟩
  rw [List.getElem?_eq_getElem hj] at hl
  cases hl; exact h2
 obtain ⟨f, hf⟩ : ∃ f : Nat → Value, ∀ j, j < ls.length → w.cell? ⟨g, o + j, none⟩ = some (f j) ∧ ∀ l, ls[j]? = some l → Hd16 w (f j) l := by
  refine ⟨fun j => if hj : j < ls.length then Classical.choose (each j hj) else .nilFunc, fun j hj => ?_⟩
  simp only [dif_pos hj]
  exact Classical.choose_spec (each j hj)
 refine ⟨g, o, (List.range ls.length).map f, e, by simp, fun j v hv => ?_, fun j v l hv hl => ?_⟩
 ·have hj : j < ls.length := by have := (List.getElem?_eq_some_iff.1 hv).1; simpa using this
  rw [List.getElem?_map, List.getElem?_range hj] at hv
  simp at hv
  rw [← hv]; exact (hf j hj).1
 ·have hj : j < ls.length := (List.getElem?_eq_some_iff.1 hl).1
  rw [List.getElem?_map, List.getElem?_range hj] at hv
  simp at hv
  rw [← hv]; exact (hf j hj).2 l hl
theorem wpList_consP {ops : Array Oper} {rest : List Oper} {o : Oper} {a : Act} {w : World} {v0 : Value} {Q : Exit → Act → World → Prop} (hgd : o.guard = none) (s x : Operand)
  (ho : o.op = .call { callee := .builtin .append, args := #[s, x], argTypes := #[149, 149] }) (l0 : List UInt8) (hs : a.eval s = .slice (some ⟨w.heap.size, 0, none⟩) 1 1) (h0 : Hd16 w v0 l0) (A : Option Addr) (c : Nat) (ls : List (List UInt8))
  (hx : a.eval x = .slice A ls.length c) (hA : PS w A ls) (hne : ls ≠ []) (hl : ls.length ≤ 1000000)
  (h : ∀ A' c' w', PS w' A' (l0 :: ls) → Below w.heap.size w w' → wpList Tryz.prog ops Q rest (a.put o.dst (.slice A' (ls.length + 1) c')) w') : wpList Tryz.prog ops Q (o :: rest) a (w.alloc (.cells #[v0] 22)) := by
 obtain ⟨i0, hi, hz0, hz1, hz2⟩ := info_parts infoS16
 obtain ⟨g, o', hds, rfl, hlen, hcell, hhd⟩ := ps_list hA hne
 have hb0 : Below w.heap.size w (w.alloc (.cells #[v0] 22)) := Bt.one_below w _
 refine wpList_append_own (w := w.alloc (.cells #[v0] 22)) hgd s x 149 ho w.heap.size 22 i0 _ 1 24 Tryz.underlying149 hi hz0 hz1 hz2 rfl (by decide) (.slice (some ⟨w.heap.size, 0, none⟩) 1 1) 1 [v0] hs
  ⟨rfl, .inr ⟨w.heap.size, 1, #[v0], rfl, Nat.le_refl _, heap_alloc_new w _, Nat.le_refl _, by unfold maxLen; omega, rfl, rfl⟩⟩ ⟨g, o', none⟩ ls.length c hds hx (by rw [hlen]; omega) (fun j u hj => ?_) (fun u hu => ?_) (by unfold maxLen; omega) (by omega) (by simp) fun v' w' hown hgrow _ => ?_
 ·rw [add_none]
  rw [hb0.cell (show (⟨g, o' + j, none⟩ : Addr).block < w.heap.size from lt_of_cell (hcell j u hj))]
  exact hcell j u hj
 ·obtain ⟨j, hj⟩ := List.getElem?_of_mem hu
  have hjl : j < ls.length := by rw [← hlen]; exact (List.getElem?_eq_some_iff.1 hj).1
  exact hd_one (hhd j u _ hj (List.getElem?_eq_getElem hjl))
 ·have hb : Below w.heap.size w w' := hb0.grown hgrow (by simp) (by intro k hk; simp [Value.ownBlock] at hk; omega)
  obtain ⟨_, ⟨_, e⟩ | ⟨g', cap, cur, rfl, hg', hh, hn, hc, hsz, ht⟩⟩ := hown
  ·omega
  ·rw [Nat.add_comm 1 ls.length]
   refine h _ _ _ (fun i l hil => ?_) hb
   obtain ⟨v, hv⟩ : ∃ v, ([v0] ++ hds)[i]? = some v := ⟨_, List.getElem?_eq_getElem (by have := (List.getElem?_eq_some_iff.1 hil).1; rw [List.length_append, hlen]; simp at this ⊢; omega)⟩
   refine ⟨g', 0, v, rfl, ?_, ?_⟩
   ·rw [Nat.zero_add, cell_of_cells hh, ← Array.getElem?_toList]
    have hlt : i < 1 + ls.length := by have := (List.getElem?_eq_some_iff.1 hil).1; simp at this; omega
    have := congrArg (·[i]?) ht
    simp only [Nat.mul_one] at this
    rw [List.getElem?_take, if_pos (by omega)] at this
    rw [this]; exact hv
   ·cases i with
    | zero =>
     simp at hv hil
     subst hv; subst hil
     exact h0.below hb
    | succ i =>
     simp at hv hil
     exact (hhd i v l hv hil).below hb
end
end Go.Proofs.YtjgdindjimbfeaaGreatDoor
