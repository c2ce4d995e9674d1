import Derived.Test.YtjgdindjimbfeaaGreatDoorAA
import Derived.Test.YtjgdindjimbfeaaGreatDoorAD
import Derived.Test.YtjgdindjimbfeaaGreatDoorME
import Derived.Laws.AppendOwn
namespace Go.Proofs.YtjgdindjimbfeaaGreatDoor
set_option linter.unusedSimpArgs false
set_option linter.unusedVariables false
section
open Go.RowKit
def endP (p : Pf) : List UInt8 := if p.kind = 1 then 0 :: p.lf else emptyL
def stepN (k : List UInt8) (d : Nat) (b s : List UInt8) : List UInt8 := if bitK k d = 1 then nodeL s b else nodeL b s
def preF (n : Int) (e : List UInt8) (X : List (List UInt8)) (k : List UInt8) (D : Nat) : Nat → List UInt8
 | 0 => e
 | i + 1 => stepN k (D - 1 - i) (digL n (preF n e X k D i)) (X.getD (D - 1 - i) [])
def preB (n : Int) (e : List UInt8) (X : List (List UInt8)) (k : List UInt8) (D : Nat) : Nat → List (List UInt8)
 | 0 => [e]
 | i + 1 => preF n e X k D (i + 1) :: preB n e X k D i
def stpB (n : Int) (e : List UInt8) (X : List (List UInt8)) (k : List UInt8) (D : Nat) : Nat → List (List UInt8)
 | 0 => [digL n e]
 | i + 1 => stpB n e X k D i ++ [digL n (preF n e X k D (i + 1))]
def sidX (n : Int) (p : Pf) : List (List UInt8) := expL n p.bm p.sib p.dep.toNat
def stepL (n : Int) (p : Pf) (k : List UInt8) : List (List UInt8) := stpB n (endP p) (sidX n p) k p.dep.toNat p.dep.toNat
def rootP (n : Int) (p : Pf) (k : List UInt8) : List UInt8 := digL n (preF n (endP p) (sidX n p) k p.dep.toNat p.dep.toNat)
theorem preB_len (n : Int) (e : List UInt8) (X : List (List UInt8)) (k : List UInt8) (D : Nat) : ∀ i, (preB n e X k D i).length = i + 1
 | 0 => rfl
 | i + 1 => by unfold preB; rw [List.length_cons, preB_len n e X k D i]
theorem stpB_len (n : Int) (e : List UInt8) (X : List (List UInt8)) (k : List UInt8) (D : Nat) : ∀ i, (stpB n e X k D i).length = i + 1
 | 0 => rfl
 | i + 1 => by unfold stpB; rw [List.length_append, stpB_len n e X k D i]; rfl
theorem stpB_last (n : Int) (e : List UInt8) (X : List (List UInt8)) (k : List UInt8) (D : Nat) : ∀ i, (stpB n e X k D i)[i]? = some (digL n (preF n e X k D i))
 | 0 => rfl
 | i + 1 => by
  unfold stpB
  rw [List.getElem?_append_right (by rw [stpB_len]; exact Nat.le_refl _), stpB_len, Nat.sub_self]; rfl
theorem stpB_mem (n : Int) (e : List UInt8) (X : List (List UInt8)) (k : List UInt8) (D : Nat) : ∀ i, ∀ s ∈ stpB n e X k D i, s.length = 32
 | 0, s, h => by rw [List.mem_singleton.1 h]; exact dig_len _ _
 | i + 1, s, h => by
  unfold stpB at h
  rcases List.mem_append.1 h with h | h
  ·exact stpB_mem n e X k D i s h
  ·rw [List.mem_singleton.1 h]; exact dig_len _ _
theorem stepL_len {n : Int} {p : Pf} {k : List UInt8} : (stepL n p k).length = p.dep.toNat + 1 := stpB_len ..
theorem stepL_last (n : Int) (p : Pf) (k : List UInt8) : (stepL n p k)[p.dep.toNat]? = some (rootP n p k) := stpB_last ..
theorem endP_len {p : Pf} (hp : p.Ok) : (endP p).length ≤ 65 := by
 unfold endP
 split
 ·rw [List.length_cons, hp.lf]; exact Nat.le_refl _
 ·show 1 ≤ 65; omega
theorem stepN_len {k : List UInt8} {d : Nat} {b s : List UInt8} (hb : b.length = 32) (hs : s.length = 32) : (stepN k d b s).length = 65 := by
 unfold stepN
 split
 ·show (1 :: (s ++ b)).length = 65; rw [List.length_cons, List.length_append, hb, hs]
 ·show (1 :: (b ++ s)).length = 65; rw [List.length_cons, List.length_append, hb, hs]
theorem leaf_lf {l : List UInt8} : leafL (l.take 32) (l.drop 32) = 0 :: l := by unfold leafL; rw [List.take_append_drop]
theorem exp_at (n : Int) (bm : List UInt8) (sib : List (List UInt8)) : ∀ (D j : Nat), j < D → (expL n bm sib D)[j]? = some (if Bt.bit (keyF bm) j = 1 then sib.getD (cntB bm j) [] else digL n emptyL)
 | 0, j, h => by omega
 | D + 1, j, h => by
  unfold expL
  by_cases e : j = D
  ·subst e
   rw [List.getElem?_append_right (by rw [expL_len]; exact Nat.le_refl _), expL_len, Nat.sub_self]; rfl
  ·rw [List.getElem?_append_left (by rw [expL_len]; omega)]
   exact exp_at n bm sib D j (by omega)
theorem sibS_at (n : Int) (l : List Ent) (k : List UInt8) (j : Nat) (hs : sibK l k j ≠ []) (D : Nat) (h : j < D) : (sibS n l k D)[(depS l k j).length]? = some (rootK (256 - j) n (sibK l k j) (j + 1)) := by
 obtain ⟨r, hr⟩ : ∃ r, r = rootK (256 - j) n (sibK l k j) (j + 1) := ⟨_, rfl⟩
 have hy : sibS n l k (j + 1) = sibS n l k j ++ [r] := by rw [hr]; exact sibS_yes hs
 rw [← hr]
 clear hr
 induction D with
 | zero => omega
 | succ D ih =>
  by_cases e : j = D
  ·subst e
   rw [hy, depS_len n, List.getElem?_append_right (Nat.le_refl _), Nat.sub_self]; rfl
  ·have ih := ih (by omega)
   by_cases hD : sibK l k D = []
   ·rw [sibS_no hD]; exact ih
   ·rw [sibS_yes hD, List.getElem?_append_left (List.getElem?_eq_some_iff.1 ih).1]; exact ih
theorem side_at {n : Int} {l : List Ent} {k : List UInt8} {D j : Nat} (hD : D ≤ 256) (hj : j < D) : (sidX n (prK n l k D)).getD j [] = rootK (256 - j) n (sibK l k j) (j + 1) := by
 have hd : (prK n l k D).dep.toNat = D := Int.toNat_natCast D
 obtain ⟨bm, hbm⟩ : ∃ bm, bm = bmL (Bt.ofK (depS l k D)) := ⟨_, rfl⟩
 have hX : sidX n (prK n l k D) = expL n bm (sibS n l k D) D := by unfold sidX; rw [hd, hbm]; rfl
 have hx := exp_at n bm (sibS n l k D) D j hj
 have hbit : Bt.bit (keyF bm) j = 1 ↔ sibK l k j ≠ [] := by
  rw [hbm, bit_bmL (Bt.ofK_byt _) j (by omega), Bt.bit_ofK _ j (by omega)]
  by_cases hm : (j : Int) ∈ depS l k D
  ·rw [if_pos hm]
   obtain ⟨i, _, h2, h3⟩ := (mem_depS l k _ D).1 hm
   have : i = j := by omega
   subst this
   exact ⟨fun _ => h2, fun _ => rfl⟩
  ·rw [if_neg hm]
   constructor
   ·intro h; omega
   ·intro h; exact absurd ((mem_depS l k _ D).2 ⟨j, hj, h, rfl⟩) hm
 rw [hX, List.getD_eq_getElem?_getD, hx]
 by_cases hs : sibK l k j = []
 ·rw [if_neg (fun h => hbit.1 h hs), hs, rootK_none]; rfl
 ·rw [if_pos (hbit.2 hs)]
  have hc : cntB bm j = (depS l k j).length := by
   unfold cntB
   rw [hbm, Bt.setZ_congr j (b := Bt.ofK (depS l k D)) fun i hi => bit_bmL (Bt.ofK_byt _) i (by omega), set_depS l k hD j (by omega), show min j D = j by omega]
  rw [hc, List.getD_eq_getElem?_getD, sibS_at n l k j hs D hj]; rfl
theorem lead_at {n : Int} {l : List Ent} {k : List UInt8} {D : Nat} (hs : Sep 0 l) (hD : D ≤ 256) (h1 : ∀ j, j < D → 2 ≤ (dK l k j).length) (h2 : (dK l k D).length ≤ 1) : ∀ i, i ≤ D →
  digL n (preF n (endP (prK n l k D)) (sidX n (prK n l k D)) k D i) = rootK (257 - (D - i)) n (dK l k (D - i)) (D - i : Nat)
 | 0, _ => by
  show digL n (endP (prK n l k D)) = _
  rw [Nat.sub_zero]
  unfold endP
  show digL n (if kindO (dK l k D) = 1 then 0 :: leafO n (dK l k D) else emptyL) = _
  match hd : dK l k D with
  | [] => rw [rootK_none]; rfl
  | [e] => rw [rootK_one]; rfl
  | a :: b :: r => rw [hd] at h2; simp at h2
 | i + 1, hi => by
  obtain ⟨d, hd⟩ : ∃ d, d = D - 1 - i := ⟨_, rfl⟩
  have hdD : d < D := by omega
  have e1 : D - (i + 1) = d := by omega
  have e2 : D - i = d + 1 := by omega
  have ih := lead_at (n := n) hs hD h1 h2 i (by omega)
  rw [e2] at ih
  rw [e1]
  show digL n (stepN k (D - 1 - i) (digL n (preF n (endP (prK n l k D)) (sidX n (prK n l k D)) k D i)) ((sidX n (prK n l k D)).getD (D - 1 - i) [])) = _
  rw [← hd, ih, side_at hD hdD, show 257 - d = (256 - d) + 1 by omega, rootK_two (256 - d) n (dK l k d) (d : Int) (h1 d hdD), show 257 - (d + 1) = 256 - d by omega]
  have e3 : dK l k (d + 1) = partK (dK l k d) (d : Int) (bitK k (d : Int)) := rfl
  have e4 : sibK l k d = partK (dK l k d) (d : Int) (1 - bitK k (d : Int)) := rfl
  rw [e3, e4]
  unfold stepN
  rcases bitK_01 k d (by omega) with h | h
  ·rw [h, if_neg (by decide)]; rfl
  ·rw [h, if_pos rfl]; rfl
theorem lead_root {n : Int} {l : List Ent} {k : List UInt8} {D : Nat} (hs : Sep 0 l) (hD : D ≤ 256) (h1 : ∀ j, j < D → 2 ≤ (dK l k j).length) (h2 : (dK l k D).length ≤ 1) : rootP n (prK n l k D) k = rootK 257 n l 0 := by
 have hd : (prK n l k D).dep.toNat = D := by show ((D : Int)).toNat = D; omega
 have := lead_at (n := n) hs hD h1 h2 D (Nat.le_refl _)
 rw [Nat.sub_self] at this
 unfold rootP
 rw [hd, this]; rfl
end
section
open Go.RowKit
theorem BA.hs16 {w w' : World} {b : Nat} {n : Int} {c : Nat} {A : Option Addr} {l : List UInt8} (hA : BA w A l) (h : Hs w b n c) (k : Keep (fun i => i = b) w w') : BA w' A l := fun j x hj => by
 obtain ⟨g, o, rfl, h3⟩ := hA j x hj
 refine ⟨g, o, rfl, k.cellAt h3 fun e => ?_⟩
 have e3 : g = b := e
 subst e3
 rw [cell_of_cells h] at h3
 obtain ⟨q, hq⟩ : ∃ q, q = o + j := ⟨_, rfl⟩
 rw [← hq] at h3
 match q, h3 with
 | 0, h3 => cases h3
 | 1, h3 => cases h3
 | q + 2, h3 => simp at h3
structure FoV : Prop where
 steps : ∀ (w : World) (b : Nat) (n : Int) (m : Nat) (p : Pf) (A : Option Addr) (c : Nat) (k : List UInt8), Hs w b n m → m ≤ 500000 → Vars w → p.Ok → DS w A p.sib → p.sib.length ≤ c → p.sib.length ≤ 1000000 → k.length = 32 → chkP p = 0 →
  Calls Tryz.prog 140 #[ptr b, .agg (pfC p (.slice A p.sib.length c)), .agg (bA k)] w fun e w' => ∃ A' c' m', e = .returned (.tuple #[.slice A' (stepL n p k).length c', .int .i64 0]) ∧ NewD w' w.heap.size A' c' (stepL n p k) ∧ m' ≤ m + (p.dep.toNat + 2) ∧ Hs w' b n m' ∧ Keep (fun i => i = b) w w'
 stepsBad : ∀ (w : World) (b : Nat) (n : Int) (m : Nat) (p : Pf) (A : Option Addr) (c : Nat) (k : List UInt8), Hs w b n m → m ≤ 500000 → Vars w → p.Ok → DS w A p.sib → p.sib.length ≤ c → p.sib.length ≤ 1000000 → k.length = 32 → chkP p ≠ 0 →
  Calls Tryz.prog 140 #[ptr b, .agg (pfC p (.slice A p.sib.length c)), .agg (bA k)] w fun e w' => ∃ A' c' m', e = .returned (.tuple #[.slice A' 0 c', .int .i64 (chkP p)]) ∧ m' ≤ m + 1000 ∧ Hs w' b n m' ∧ Keep (fun i => i = b) w w'
 root : ∀ (w : World) (b : Nat) (n : Int) (m : Nat) (p : Pf) (A : Option Addr) (c : Nat) (k : List UInt8), Hs w b n m → m ≤ 500000 → Vars w → p.Ok → DS w A p.sib → p.sib.length ≤ c → p.sib.length ≤ 1000000 → k.length = 32 → chkP p = 0 →
  Calls Tryz.prog 109 #[ptr b, .agg (pfC p (.slice A p.sib.length c)), .agg (bA k)] w fun e w' => ∃ m', e = .returned (.tuple #[.agg (bA (rootP n p k)), .int .i64 0]) ∧ m' ≤ m + (p.dep.toNat + 2) ∧ Hs w' b n m' ∧ Keep (fun i => i = b) w w'
 rootBad : ∀ (w : World) (b : Nat) (n : Int) (m : Nat) (p : Pf) (A : Option Addr) (c : Nat) (k : List UInt8), Hs w b n m → m ≤ 500000 → Vars w → p.Ok → DS w A p.sib → p.sib.length ≤ c → p.sib.length ≤ 1000000 → k.length = 32 → chkP p ≠ 0 →
  Calls Tryz.prog 109 #[ptr b, .agg (pfC p (.slice A p.sib.length c)), .agg (bA k)] w fun e w' => ∃ m', e = .returned (.tuple #[.agg (bA z26), .int .i64 (chkP p)]) ∧ m' ≤ m + 1000 ∧ Hs w' b n m' ∧ Keep (fun i => i = b) w w'
end
section
open Go.RowKit
theorem preF_len {n : Int} {e : List UInt8} {X : List (List UInt8)} {k : List UInt8} {D : Nat} (he : e.length ≤ 65) (hX : ∀ s ∈ X, s.length = 32) (hD : D ≤ X.length) : ∀ i, i ≤ D → (preF n e X k D i).length ≤ 65
 | 0, _ => he
 | i + 1, hi => by
  show (stepN k _ _ _).length ≤ 65
  rw [stepN_len (dig_len _ _) (hX _ (by rw [List.getD_eq_getElem?_getD, List.getElem?_eq_getElem (show D - 1 - i < X.length by omega)]; exact List.getElem_mem _))]
  exact Nat.le_refl _
end
end Go.Proofs.YtjgdindjimbfeaaGreatDoor
