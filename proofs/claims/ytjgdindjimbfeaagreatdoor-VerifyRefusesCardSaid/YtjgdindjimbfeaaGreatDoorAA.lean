import Derived.Test.YtjgdindjimbfeaaGreatDoorMM
import Derived.Test.YtjgdindjimbfeaaGreatDoorMO
import Derived.Test.YtjgdindjimbfeaaGreatDoorHH
import Derived.Test.YtjgdindjimbfeaaGreatDoorEt
import Derived.Test.YtjgdindjimbfeaaGreatDoorM4
import Derived.Test.YtjgdindjimbfeaaGreatDoorTG
import Derived.Maps.AppendAt
import Derived.Deep.LoopGhost
import Derived.Deep.Upon
import Derived.Lib.LazyBuf
namespace Go.Proofs.YtjgdindjimbfeaaGreatDoor
set_option linter.unusedSimpArgs false
set_option linter.unusedVariables false
section
open Go.RowKit
structure Pf where
 kind : Int
 dep : Int
 lf : List UInt8
 bm : List UInt8
 sib : List (List UInt8)
structure Pf.Ok (p : Pf) : Prop where
 lf : p.lf.length = 64
 bm : p.bm.length = 32
 sib : ∀ s ∈ p.sib, s.length = 32
def bmL (k : Nat → Nat) : List UInt8 := (List.range 32).map fun j => UInt8.ofNat (k j)
theorem bmL_len (k : Nat → Nat) : (bmL k).length = 32 := by simp [bmL]
theorem keyF_bmL {k : Nat → Nat} (hk : Bt.Byt k) : ∀ j, j < 32 → keyF (bmL k) j = k j := fun j hj => by
 unfold keyF bmL
 rw [List.getD_eq_getElem?_getD, List.getElem?_map, List.getElem?_range hj]
 have := hk j
 simp; omega
theorem bit_bmL {k : Nat → Nat} (hk : Bt.Byt k) (i : Nat) (hi : i < 256) : Bt.bit (keyF (bmL k)) i = Bt.bit k i := by
 unfold Bt.bit
 rw [keyF_bmL hk _ (by omega)]
theorem setZ_bmL {k : Nat → Nat} (hk : Bt.Byt k) : Bt.setZ (keyF (bmL k)) 256 = Bt.setZ k 256 := Bt.setZ_congr 256 fun j hj => bit_bmL hk j hj
theorem lastTo_bmL {k : Nat → Nat} (hk : Bt.Byt k) : Bt.lastTo (keyF (bmL k)) 256 = Bt.lastTo k 256 := Bt.lastTo_congr 256 fun j hj => bit_bmL hk j hj
def Pf.good (p : Pf) : Prop := 0 ≤ p.dep ∧ p.dep ≤ 256 ∧ (p.kind = 0 → p.lf = z64) ∧ (Bt.setZ (keyF p.bm) 256).length = p.sib.length ∧ Bt.lastTo (keyF p.bm) 256 = p.dep - 1
open Classical in
noncomputable def chkP (p : Pf) : Int := if p.kind ≠ 0 ∧ p.kind ≠ 1 then 7 else if p.good then 0 else 5
theorem chkP_kind {p : Pf} (h : p.kind ≠ 0 ∧ p.kind ≠ 1) : chkP p = 7 := by unfold chkP; rw [if_pos h]
theorem chkP_form {p : Pf} (h : p.kind = 0 ∨ p.kind = 1) (hg : ¬ p.good) : chkP p = 5 := by unfold chkP; rw [if_neg (by omega), if_neg hg]
theorem chkP_ok {p : Pf} (h : p.kind = 0 ∨ p.kind = 1) (hg : p.good) : chkP p = 0 := by unfold chkP; rw [if_neg (by omega), if_pos hg]
theorem chkP_cases (p : Pf) : (chkP p = 7 ∧ p.kind ≠ 0 ∧ p.kind ≠ 1) ∨ ((p.kind = 0 ∨ p.kind = 1) ∧ ((chkP p = 5 ∧ ¬ p.good) ∨ (chkP p = 0 ∧ p.good))) := by
 by_cases h : p.kind ≠ 0 ∧ p.kind ≠ 1
 ·exact .inl ⟨chkP_kind h, h⟩
 ·have h' : p.kind = 0 ∨ p.kind = 1 := by omega
  by_cases hg : p.good
  ·exact .inr ⟨h', .inr ⟨chkP_ok h' hg, hg⟩⟩
  ·exact .inr ⟨h', .inl ⟨chkP_form h' hg, hg⟩⟩
theorem setZ_last (k : Nat → Nat) : ∀ n, (Bt.setZ k n = [] ∧ Bt.lastTo k n = -1) ∨ (0 < (Bt.setZ k n).length ∧ (Bt.setZ k n)[(Bt.setZ k n).length - 1]? = some (Bt.lastTo k n))
 | 0 => .inl ⟨rfl, rfl⟩
 | n + 1 => by
  unfold Bt.setZ Bt.lastTo
  by_cases h : Bt.bit k n = 1
  ·rw [if_pos h, if_pos h]
   refine .inr ⟨by simp, ?_⟩
   rw [List.length_append, List.length_singleton, Nat.add_sub_cancel, List.getElem?_append_right (Nat.le_refl _), Nat.sub_self]; rfl
  ·rw [if_neg h, if_neg h]
   exact setZ_last k n
def supYes (p : Pf) (k v : List UInt8) : Bool := decide (p.kind = 1 ∧ p.lf.take 32 = k ∧ p.lf.drop 32 = v)
def supNo (p : Pf) (k : List UInt8) : Bool := decide (p.kind = 0 ∨ (p.kind = 1 ∧ p.lf.take 32 ≠ k ∧ p.dep ≤ comK (p.lf.take 32) k))
def supP (p : Pf) (k v : List UInt8) (present : Bool) : Bool := if present then supYes p k v else supNo p k
def cntB (bm : List UInt8) (d : Nat) : Nat := (Bt.setZ (keyF bm) d).length
def expL (n : Int) (bm : List UInt8) (sib : List (List UInt8)) : Nat → List (List UInt8)
 | 0 => []
 | d + 1 => expL n bm sib d ++ [if Bt.bit (keyF bm) d = 1 then sib.getD (cntB bm d) [] else digL n emptyL]
theorem expL_len (n : Int) (bm : List UInt8) (sib : List (List UInt8)) : ∀ d, (expL n bm sib d).length = d
 | 0 => rfl
 | d + 1 => by unfold expL; rw [List.length_append, expL_len n bm sib d]; rfl
theorem cntB_succ (bm : List UInt8) (d : Nat) : cntB bm (d + 1) = if Bt.bit (keyF bm) d = 1 then cntB bm d + 1 else cntB bm d := by
 unfold cntB
 show (if _ then _ else _ : List Int).length = _
 split <;> simp
theorem cntB_mono (bm : List UInt8) : ∀ {d e : Nat}, d ≤ e → cntB bm d ≤ cntB bm e := fun {d e} h => by
 induction h with
 | refl => exact Nat.le_refl _
 | step h ih => rw [cntB_succ]; split <;> omega
theorem cntB_lt {bm : List UInt8} {d : Nat} (hd : d < 256) (h : Bt.bit (keyF bm) d = 1) : cntB bm d < (Bt.setZ (keyF bm) 256).length := by
 have h1 := cntB_succ bm d
 rw [if_pos h] at h1
 have h2 := cntB_mono bm (show d + 1 ≤ 256 by omega)
 show cntB bm d < cntB bm 256
 omega
def leafO (n : Int) : List Ent → List UInt8
 | [] => z64
 | e :: _ => e.k ++ digL n (valL e.v)
def kindO : List Ent → Int
 | [] => 0
 | _ :: _ => 1
def depS (l : List Ent) (k : List UInt8) : Nat → List Int
 | 0 => []
 | d + 1 => if sibK l k d = [] then depS l k d else depS l k d ++ [(d : Int)]
def sibS (n : Int) (l : List Ent) (k : List UInt8) : Nat → List (List UInt8)
 | 0 => []
 | d + 1 => if sibK l k d = [] then sibS n l k d else sibS n l k d ++ [rootK (256 - d) n (sibK l k d) (d + 1)]
def prK (n : Int) (l : List Ent) (k : List UInt8) (D : Nat) : Pf := ⟨kindO (dK l k D), D, leafO n (dK l k D), bmL (Bt.ofK (depS l k D)), sibS n l k D⟩
theorem depS_no {l : List Ent} {k : List UInt8} {d : Nat} (h : sibK l k d = []) : depS l k (d + 1) = depS l k d := by show (if _ then _ else _) = _; rw [if_pos h]
theorem depS_yes {l : List Ent} {k : List UInt8} {d : Nat} (h : sibK l k d ≠ []) : depS l k (d + 1) = depS l k d ++ [(d : Int)] := by show (if _ then _ else _) = _; rw [if_neg h]
theorem sibS_no {n : Int} {l : List Ent} {k : List UInt8} {d : Nat} (h : sibK l k d = []) : sibS n l k (d + 1) = sibS n l k d := by show (if _ then _ else _) = _; rw [if_pos h]
theorem sibS_yes {n : Int} {l : List Ent} {k : List UInt8} {d : Nat} (h : sibK l k d ≠ []) : sibS n l k (d + 1) = sibS n l k d ++ [rootK (256 - d) n (sibK l k d) (d + 1)] := by show (if _ then _ else _) = _; rw [if_neg h]
theorem depS_len (n : Int) (l : List Ent) (k : List UInt8) : ∀ d, (depS l k d).length = (sibS n l k d).length
 | 0 => rfl
 | d + 1 => by
  unfold depS sibS
  split
  ·exact depS_len n l k d
  ·rw [List.length_append, List.length_append, depS_len n l k d]; rfl
theorem depS_le (l : List Ent) (k : List UInt8) : ∀ d, (depS l k d).length ≤ d
 | 0 => Nat.le_refl _
 | d + 1 => by
  have := depS_le l k d
  unfold depS
  split
  ·omega
  ·simp; omega
theorem mem_depS (l : List Ent) (k : List UInt8) (x : Int) : ∀ d, x ∈ depS l k d ↔ ∃ j : Nat, j < d ∧ sibK l k j ≠ [] ∧ x = j
 | 0 => by simp [depS]
 | d + 1 => by
  have ih := mem_depS l k x d
  unfold depS
  split
  ·rename_i h
   rw [ih]
   constructor
   ·rintro ⟨j, h1, h2, h3⟩; exact ⟨j, by omega, h2, h3⟩
   ·rintro ⟨j, h1, h2, h3⟩
    by_cases e : j = d
    ·subst e; exact absurd h h2
    ·exact ⟨j, by omega, h2, h3⟩
  ·rename_i h
   rw [List.mem_append, ih]
   constructor
   ·rintro (⟨j, h1, h2, h3⟩ | h1)
    ·exact ⟨j, by omega, h2, h3⟩
    ·exact ⟨d, by omega, h, by simpa using h1⟩
   ·rintro ⟨j, h1, h2, h3⟩
    by_cases e : j = d
    ·subst e; exact .inr (by simpa using h3)
    ·exact .inl ⟨j, by omega, h2, h3⟩
theorem sibS_mem {n : Int} {l : List Ent} {k : List UInt8} : ∀ {d : Nat} {s : List UInt8}, s ∈ sibS n l k d → s.length = 32
 | 0, s, h => by simp [sibS] at h
 | d + 1, s, h => by
  unfold sibS at h
  split at h
  ·exact sibS_mem h
  ·rcases List.mem_append.1 h with h | h
   ·exact sibS_mem h
   ·rw [List.mem_singleton.1 h]; exact rootK_len _ _ _ _
theorem set_depS (l : List Ent) (k : List UInt8) {D : Nat} (hD : D ≤ 256) : ∀ n, n ≤ 256 → Bt.setZ (Bt.ofK (depS l k D)) n = depS l k (min n D)
 | 0, _ => by rw [Nat.zero_min]; rfl
 | n + 1, hn => by
  unfold Bt.setZ
  rw [set_depS l k hD n (by omega), Bt.bit_ofK _ n (by omega)]
  by_cases hnD : n < D
  ·rw [show min (n + 1) D = n + 1 by omega, show min n D = n by omega]
   by_cases h : sibK l k n = []
   ·rw [depS_no h, if_neg (show ¬ (n : Int) ∈ depS l k D from ?_), if_neg (by omega)]
    intro hm
    obtain ⟨j, _, h2, h3⟩ := (mem_depS l k _ D).1 hm
    exact h2 (by rw [show j = n by omega]; exact h)
   ·rw [depS_yes h, if_pos ((mem_depS l k _ D).2 ⟨n, hnD, h, rfl⟩), if_pos rfl]
  ·rw [show min (n + 1) D = D by omega, show min n D = D by omega, if_neg (show ¬ (n : Int) ∈ depS l k D from ?_), if_neg (by omega)]
   intro hm
   obtain ⟨j, h1, _, h3⟩ := (mem_depS l k _ D).1 hm
   omega
theorem part_sum (l : List Ent) (d : Nat) (hd : d < 256) : ∀ b : Int, b = 0 ∨ b = 1 → (partK l d b).length + (partK l d (1 - b)).length = l.length := fun b hb => by
 unfold partK
 induction l with
 | nil => rfl
 | cons e r ih =>
  have h01 := bitK_01 e.k d hd
  rw [List.filter_cons, List.filter_cons]
  rcases hb with rfl | rfl <;> rcases h01 with h | h <;> simp [h] at ih ⊢ <;> omega
theorem sib_last {l : List Ent} {k : List UInt8} {D : Nat} (hD : 0 < D) (hD2 : D ≤ 256) (h1 : 2 ≤ (dK l k (D - 1)).length) (h2 : (dK l k D).length ≤ 1) : sibK l k (D - 1) ≠ [] := fun h => by
 have hs := part_sum (dK l k (D - 1)) (D - 1) (by omega) (bitK k ((D - 1 : Nat) : Int)) (bitK_01 k (D - 1) (by omega))
 have he : dK l k D = partK (dK l k (D - 1)) ((D - 1 : Nat) : Int) (bitK k ((D - 1 : Nat) : Int)) := by
  obtain ⟨m, rfl⟩ : ∃ m, D = m + 1 := ⟨D - 1, by omega⟩
  rfl
 rw [he] at h2
 unfold sibK at h
 rw [h] at hs
 simp at hs; omega
theorem last_depS {l : List Ent} {k : List UInt8} {D : Nat} (hD : D ≤ 256) (h : 0 < D → sibK l k (D - 1) ≠ []) : Bt.lastTo (Bt.ofK (depS l k D)) 256 = (D : Int) - 1 := by
 have up : ∀ n, D ≤ n → n ≤ 256 → Bt.lastTo (Bt.ofK (depS l k D)) n = Bt.lastTo (Bt.ofK (depS l k D)) D := fun n h1 => by
  induction h1 with
  | refl => intro _; rfl
  | step h1 ih =>
   rename_i m
   intro hm
   have hDm : D ≤ m := h1
   show (if _ then _ else _) = _
   rw [if_neg, ih (by omega)]
   rw [Bt.bit_ofK _ m (by omega), if_neg]
   ·omega
   ·intro hx
    obtain ⟨j, h2, _, h3⟩ := (mem_depS l k _ D).1 hx
    omega
 rw [up 256 hD (Nat.le_refl _)]
 rcases Nat.eq_zero_or_pos D with rfl | hp
 ·rfl
 ·obtain ⟨m, rfl⟩ : ∃ m, D = m + 1 := ⟨D - 1, by omega⟩
  show (if _ then _ else _) = _
  rw [if_pos]
  ·omega
  ·rw [Bt.bit_ofK _ m (by omega), if_pos ((mem_depS l k _ _).2 ⟨m, by omega, by have := h hp; rwa [show m + 1 - 1 = m by omega] at this, rfl⟩)]
theorem kindO_01 (l : List Ent) : kindO l = 0 ∨ kindO l = 1 := by cases l <;> simp [kindO]
theorem leafO_len {n : Int} {l : List Ent} (h : ∀ e ∈ l, e.k.length = 32) : (leafO n l).length = 64 := by
 cases l with
 | nil => rfl
 | cons e r =>
  show (e.k ++ digL n (valL e.v)).length = 64
  rw [List.length_append, h e (by simp), dig_len]
theorem prK_ok {n : Int} {l : List Ent} (hs : Sep 0 l) (k : List UInt8) {D : Nat} : (prK n l k D).Ok :=
 ⟨leafO_len fun e he => hs.len e (dK_mem.1 he).1, bmL_len _, fun _ h => sibS_mem h⟩
theorem prK_good {n : Int} {l : List Ent} {k : List UInt8} {D : Nat} (hD : D ≤ 256) (h1 : ∀ j, j < D → 2 ≤ (dK l k j).length) (h2 : (dK l k D).length ≤ 1) : chkP (prK n l k D) = 0 := by
 refine chkP_ok (kindO_01 _) ⟨?_, ?_, ?_, ?_, ?_⟩
 ·show (0 : Int) ≤ D; omega
 ·show (D : Int) ≤ 256; omega
 ·show kindO (dK l k D) = 0 → leafO n (dK l k D) = z64
  cases dK l k D with
  | nil => intro _; rfl
  | cons e r => intro h; exact absurd h (by show ¬ (1 : Int) = 0; decide)
 ·show (Bt.setZ (keyF (bmL _)) 256).length = (sibS n l k D).length
  rw [setZ_bmL (Bt.ofK_byt _), set_depS l k hD 256 (Nat.le_refl _), show min 256 D = D by omega, depS_len n]
 ·show Bt.lastTo (keyF (bmL _)) 256 = (D : Int) - 1
  rw [lastTo_bmL (Bt.ofK_byt _)]
  exact last_depS hD fun hp => sib_last hp hD (h1 _ (by omega)) h2
theorem end_key {l : List Ent} {k : List UInt8} {D : Nat} {e : Ent} (h2 : (dK l k D).length ≤ 1) (he : e ∈ l) (hk : e.k = k) : dK l k D = [e] := by
 have hm : e ∈ dK l k D := dK_mem.2 ⟨he, fun j _ => by rw [hk]⟩
 match hd : dK l k D with
 | [] => rw [hd] at hm; simp at hm
 | [x] => rw [hd] at hm; rw [List.mem_singleton.1 hm]
 | x :: y :: r => rw [hd] at h2; simp at h2
theorem find_key {l : List Ent} {k : List UInt8} : (l.find? fun e => decide (e.k = k)) = none ↔ ∀ e ∈ l, e.k ≠ k := by
 rw [List.find?_eq_none]
 simp
theorem sup_yes {n : Int} {l : List Ent} {k : List UInt8} {D : Nat} (hs : Sep 0 l) (h2 : (dK l k D).length ≤ 1) (hk : k.length = 32) (v : List UInt8)
  (hv : ∀ e ∈ l, e.k = k → e.v = v) : supYes (prK n l k D) k (digL n (valL v)) = (l.find? fun e => decide (e.k = k)).isSome := by
 unfold supYes
 cases hf : (l.find? fun e => decide (e.k = k)) with
 | some e =>
  have he := List.mem_of_find?_eq_some hf
  have hek : e.k = k := by have := List.find?_some hf; simpa using this
  have hd := end_key h2 he hek
  refine decide_eq_true ⟨?_, ?_, ?_⟩
  ·show kindO (dK l k D) = 1; rw [hd]; rfl
  ·show (leafO n (dK l k D)).take 32 = k
   rw [hd]; show (e.k ++ _).take 32 = k
   rw [hek, List.take_append_of_le_length (by omega), List.take_of_length_le (by omega)]
  ·show (leafO n (dK l k D)).drop 32 = _
   rw [hd]; show (e.k ++ _).drop 32 = _
   rw [hek, List.drop_append, List.drop_of_length_le (by omega), hk, List.nil_append, Nat.sub_self, List.drop_zero, hv e he hek]
 | none =>
  have hn := find_key.1 hf
  refine decide_eq_false ?_
  rintro ⟨h3, h4, _⟩
  have h3' : kindO (dK l k D) = 1 := h3
  have h4' : (leafO n (dK l k D)).take 32 = k := h4
  match hd : dK l k D with
  | [] => rw [hd] at h3'; exact absurd h3' (by show ¬ (0 : Int) = 1; decide)
  | x :: r =>
   rw [hd] at h4'
   have hx : x ∈ l := (dK_mem.1 (show x ∈ dK l k D by rw [hd]; simp)).1
   have h5 : (x.k ++ digL n (valL x.v)).take 32 = k := h4'
   rw [List.take_append_of_le_length (by rw [hs.len x hx]; omega), List.take_of_length_le (by rw [hs.len x hx]; omega)] at h5
   exact hn x hx h5
theorem sup_no {n : Int} {l : List Ent} {k : List UInt8} {D : Nat} (hs : Sep 0 l) (hD : D ≤ 256) (h2 : (dK l k D).length ≤ 1) (hk : k.length = 32) :
  supNo (prK n l k D) k = !(l.find? fun e => decide (e.k = k)).isSome := by
 unfold supNo
 cases hf : (l.find? fun e => decide (e.k = k)) with
 | some e =>
  have he := List.mem_of_find?_eq_some hf
  have hek : e.k = k := by have := List.find?_some hf; simpa using this
  have hd := end_key h2 he hek
  refine decide_eq_false ?_
  rintro (h3 | ⟨_, h4, _⟩)
  ·have : kindO (dK l k D) = 0 := h3
   rw [hd] at this; exact absurd this (by show ¬ (1 : Int) = 0; decide)
  ·refine h4 ?_
   show (leafO n (dK l k D)).take 32 = k
   rw [hd]; show (e.k ++ _).take 32 = k
   rw [hek, List.take_append_of_le_length (by omega), List.take_of_length_le (by omega)]
 | none =>
  have hn := find_key.1 hf
  refine decide_eq_true ?_
  match hd : dK l k D with
  | [] => exact .inl (by show kindO (dK l k D) = 0; rw [hd]; rfl)
  | x :: r =>
   have hm := dK_mem.1 (show x ∈ dK l k D by rw [hd]; simp)
   have hx := hm.1
   have h5 : (leafO n (dK l k D)).take 32 = x.k := by
    rw [hd]; show (x.k ++ _).take 32 = x.k
    rw [List.take_append_of_le_length (by rw [hs.len x hx]; omega), List.take_of_length_le (by rw [hs.len x hx]; omega)]
   refine .inr ⟨by show kindO (dK l k D) = 1; rw [hd]; rfl, ?_, ?_⟩
   ·show (leafO n (dK l k D)).take 32 ≠ k
    rw [h5]; exact hn x hx
   ·show (D : Int) ≤ comK ((leafO n (dK l k D)).take 32) k
    rw [h5]
    have := (com_bits hD).2 hm.2
    omega
theorem sup_other {n : Int} {l : List Ent} {k : List UInt8} {D : Nat} (hs : Sep 0 l) (v o : List UInt8)
  (hv : ∀ e ∈ l, e.k = k → e.v = v) (ho : o ≠ digL n (valL v)) : supYes (prK n l k D) k o = false := by
 unfold supYes
 refine decide_eq_false ?_
 rintro ⟨h3, h4, h5⟩
 have h3' : kindO (dK l k D) = 1 := h3
 have h4' : (leafO n (dK l k D)).take 32 = k := h4
 have h5' : (leafO n (dK l k D)).drop 32 = o := h5
 match hd : dK l k D with
 | [] => rw [hd] at h3'; exact absurd h3' (by show ¬ (0 : Int) = 1; decide)
 | x :: r =>
  rw [hd] at h4' h5'
  have hx : x ∈ l := (dK_mem.1 (show x ∈ dK l k D by rw [hd]; simp)).1
  have hl := hs.len x hx
  have h6 : (x.k ++ digL n (valL x.v)).take 32 = k := h4'
  have h7 : (x.k ++ digL n (valL x.v)).drop 32 = o := h5'
  rw [List.take_append_of_le_length (by omega), List.take_of_length_le (by omega)] at h6
  rw [List.drop_append, List.drop_of_length_le (by omega), hl, List.nil_append, Nat.sub_self, List.drop_zero, hv x hx h6] at h7
  exact ho h7.symm
end
section
open Go.RowKit
def dC (k : List UInt8) : List Value := k.map bv
def DS (w : World) (A : Option Addr) (ds : List (List UInt8)) : Prop := ∀ i k, ds[i]? = some k → k.length = 32 ∧ ∃ g o, A = some ⟨g, o, none⟩ ∧ w.rangeAt g (o + i * 32) (k.map bv)
theorem DS.below {w w' : World} {A : Option Addr} {ds : List (List UInt8)} (h : DS w A ds) (hb : Below w.heap.size w w') : DS w' A ds := fun i k hi => by
 obtain ⟨h1, g, o, h2, h3⟩ := h i k hi
 exact ⟨h1, g, o, h2, range_below h3 hb⟩
theorem DS.hs {w w' : World} {b : Nat} {n : Int} {c : Nat} {A : Option Addr} {ds : List (List UInt8)} (hA : DS w A ds) (h : Hs w b n c) (k : Keep (fun i => i = b) w w') : DS w' A ds := fun i key hi => by
 obtain ⟨h1, g, o, rfl, h3⟩ := hA i key hi
 refine ⟨h1, g, o, rfl, fun j v hv => k.cellAt (h3 j v hv) fun e => ?_⟩
 have e3 : g = b := e
 subst e3
 have h4 := h3 j v hv
 rw [cell_of_cells h] at h4
 obtain ⟨y, hy, rfl⟩ : ∃ y, key[j]? = some y ∧ bv y = v := by
  rw [List.getElem?_map] at hv
  obtain ⟨y, hy, he⟩ := Option.map_eq_some_iff.1 hv
  exact ⟨y, hy, he⟩
 obtain ⟨q, hq⟩ : ∃ q, q = o + i * 32 + j := ⟨_, rfl⟩
 rw [← hq] at h4
 match q, h4 with
 | 0, h4 => cases h4
 | 1, h4 => cases h4
 | q + 2, h4 => simp at h4
theorem DS.nil (w : World) (A : Option Addr) : DS w A [] := fun i k h => by simp at h
theorem DS.len {w : World} {A : Option Addr} {ds : List (List UInt8)} (h : DS w A ds) : ∀ s ∈ ds, s.length = 32 := fun s hs => by
 obtain ⟨i, hi⟩ := List.mem_iff_getElem?.1 hs
 exact (h i s hi).1
theorem ldDig {w : World} {g o : Nat} {k : List UInt8} (h : w.rangeAt g o (k.map bv)) (hk : k.length = 32) : ldA 47 w (.pointer (some ⟨g, o, none⟩)) = .ok (.value (.agg (bA k))) w :=
 ldA_of (t := 47) (w := w) (b := g) (o := o) (cs := k.map bv) h Tryz.underlying47 (by rw [List.length_map, hk]; exact info26)
noncomputable def bsD (w : World) (n : Nat) (parts : Array (Nat × Value)) : Result Next := Sem.run Tryz.prog (do pure (.value (← Instr.buildSlice 51 n parts))) w
@[go_sem ↓] theorem execOp_buildSliceD (ρ : Operand → Value) (dst : Option Tmp) (n : Nat) (parts : Array (Nat × Operand)) (type : TypeId) (pos : String) (after : Array Edge) (guard : Option (Nat × Bool)) (w : World) :
  Sem.run Tryz.prog (execOp ρ { dst, op := .buildSlice 51 n parts, type, pos, after, guard }) w = bsD w n (parts.map fun x => (x.1, ρ x.2)) := rfl
theorem bsD_f (f : Nat → UInt8) (w : World) : bsD w 1 #[(0, .agg (bA ((List.range 32).map f)))] = .ok (.value (.slice (some ⟨w.heap.size, 0, none⟩) 1 1)) (w.alloc (.cells (bA ((List.range 32).map f)) 47)) := by kernel_rfl
theorem bsD_one (k : List UInt8) (hk : k.length = 32) (w : World) : bsD w 1 #[(0, .agg (bA k))] = .ok (.value (.slice (some ⟨w.heap.size, 0, none⟩) 1 1)) (w.alloc (.cells (bA k) 47)) := by
 have := bsD_f (fun j => k.getD j 0) w
 rw [← list32 k hk] at this
 exact this
def OwnD (w : World) (B : Nat) (v : Value) (ds : List (List UInt8)) : Prop := w.ownsRow B 47 32 v ds.length (ds.flatMap dC)
theorem OwnD.nil (w : World) (B : Nat) : OwnD w B (.slice none 0 0) [] := ⟨rfl, .inl ⟨rfl, rfl⟩⟩
theorem OwnD.block {w w' : World} {B : Nat} {v : Value} {ds : List (List UInt8)} (h : OwnD w B v ds) (hb : ∀ g, B ≤ g → g < w.heap.size → w'.heap[g]? = w.heap[g]?) : OwnD w' B v ds := by
 obtain ⟨h0, h | ⟨g, cap, cur, rfl, hg, hh, hr⟩⟩ := h
 ·exact ⟨h0, .inl h⟩
 ·exact ⟨h0, .inr ⟨g, cap, cur, rfl, hg, by rw [hb g hg (lt_of_heap hh)]; exact hh, hr⟩⟩
theorem OwnD.below {w w' : World} {B : Nat} {v : Value} {ds : List (List UInt8)} (h : OwnD w B v ds) (hb : Below w.heap.size w w') : OwnD w' B v ds := h.block fun g _ hg => hb.block g hg
theorem OwnD.mono {w : World} {B B' : Nat} {v : Value} {ds : List (List UInt8)} (h : OwnD w B v ds) (hB : B' ≤ B) : OwnD w B' v ds := by
 obtain ⟨h0, h | ⟨g, cap, cur, hv, hg, hr⟩⟩ := h
 ·exact ⟨h0, .inl h⟩
 ·exact ⟨h0, .inr ⟨g, cap, cur, hv, by omega, hr⟩⟩
theorem OwnD.ge {w : World} {B : Nat} {v : Value} {ds : List (List UInt8)} (h : OwnD w B v ds) : ∀ k, v.ownBlock = some k → B ≤ k := fun k hk => by
 obtain ⟨_, h | ⟨g, cap, cur, rfl, hg, _⟩⟩ := h
 ·obtain ⟨rfl, _⟩ := h; simp [Value.ownBlock] at hk
 ·simp [Value.ownBlock] at hk; omega
theorem flatD_at {ds : List (List UInt8)} (hes : ∀ k ∈ ds, k.length = 32) {i : Nat} {k : List UInt8} (hi : ds[i]? = some k) {j : Nat} {v : Value} (hv : (dC k)[j]? = some v) : (ds.flatMap dC)[i * 32 + j]? = some v := by
 induction ds generalizing i with
 | nil => simp at hi
 | cons x r ih =>
  have hx : (dC x).length = 32 := by unfold dC; rw [List.length_map, hes x (by simp)]
  rw [List.flatMap_cons]
  cases i with
  | zero =>
   simp at hi
   subst hi
   rw [Nat.zero_mul, Nat.zero_add, List.getElem?_append_left (List.getElem?_eq_some_iff.1 hv).1]
   exact hv
  | succ i =>
   rw [List.getElem?_append_right (by rw [hx]; omega), hx, show (i + 1) * 32 + j - 32 = i * 32 + j by omega]
   exact ih (fun y hy => hes y (by simp [hy])) hi
theorem OwnD.ds {w : World} {B : Nat} {v : Value} {ds : List (List UInt8)} (h : OwnD w B v ds) (hes : ∀ k ∈ ds, k.length = 32) : ∃ A c, v = .slice A ds.length c ∧ DS w A ds ∧ ds.length ≤ c := by
 obtain ⟨h0, ⟨rfl, h⟩ | ⟨g, cap, cur, rfl, hg, hh, hn, hc, hs, ht⟩⟩ := h
 ·exact ⟨none, 0, by rw [h], fun i e hi => by
   have : ds = [] := List.length_eq_zero_iff.1 h
   subst this; simp at hi, by omega⟩
 ·refine ⟨_, cap, rfl, fun i k hi => ⟨hes k (List.mem_of_getElem? hi), g, 0, rfl, fun j x hx => ?_⟩, hn⟩
  have h1 := flatD_at hes hi (j := j) (v := x) hx
  have hlt := (List.getElem?_eq_some_iff.1 h1).1
  rw [h0] at hlt
  rw [Nat.zero_add, cell_of_cells hh, ← Array.getElem?_toList, ← h1, ← ht, List.getElem?_take, if_pos hlt]
theorem OwnD.dsA {w : World} {B n c : Nat} {A : Option Addr} {ds : List (List UInt8)} (h : OwnD w B (.slice A n c) ds) (hes : ∀ k ∈ ds, k.length = 32) : DS w A ds := by
 obtain ⟨A', c', e, h1, _⟩ := h.ds hes
 cases e
 exact h1
theorem infoD3 : (Tryz.prog.info? 47).map (fun i => (i.zero, i.size, i.bytes)) = some (some (.agg (bA ((List.range 32).map fun _ => (0 : UInt8)))), 32, 32) := by kernel_rfl
theorem wpList_pushD {ops : Array Oper} {rest : List Oper} {o : Oper} {a : Act} {w : World} {Q : Exit → Act → World → Prop} (hgd : o.guard = none) (s x : Operand)
  (ho : o.op = .call { callee := .builtin .append, args := #[s, x], argTypes := #[51, 51] }) (B : Nat) (v : Value) (ds : List (List UInt8)) (hs : a.eval s = v) (hown : OwnD w B v ds) (g : Nat) (k : List UInt8) (hk : k.length = 32)
  (hx : a.eval x = .slice (some ⟨g, 0, none⟩) 1 1) (hr : w.rangeAt g 0 (dC k)) (hl : ds.length ≤ 1000000) (hB : B ≤ w.heap.size)
  (h : ∀ v' w', OwnD w' B v' (ds ++ [k]) → Grown11 v v' w w' → wpList Tryz.prog ops Q rest (a.put o.dst v') w') : wpList Tryz.prog ops Q (o :: rest) a w := by
 obtain ⟨i0, hi, hz0, hz1, hz2⟩ := info_parts infoD3
 refine wpList_append_own_at (w := w) hgd s x 51 ho B 47 i0 _ 32 32 Tryz.underlying51 hi hz0 hz1 hz2 rfl (by decide) v ds.length (ds.flatMap dC) hs hown ⟨g, 0, none⟩ 1 1 (dC k) hx (by unfold dC; rw [List.length_map, hk])
  (fun j u hj => ?_) (fun u hu => ?_) (by unfold maxLen; omega) (by omega) hB fun v' w' h1 h2 _ h4 => h v' w' ?_ ⟨h2, h4⟩
 ·have := hr j u hj
  rwa [show (⟨g, 0, none⟩ : Addr).add j = ⟨g, 0 + j, none⟩ from add_none g 0 j]
 ·obtain ⟨y, _, rfl⟩ := List.mem_map.1 hu
  exact bv_one y
 ·unfold OwnD
  rw [List.flatMap_append, List.length_append]
  simpa using h1
theorem dig_made (w : World) (k : List UInt8) (t : TypeId) : (w.alloc (.cells (bA k) t)).rangeAt w.heap.size 0 (dC k) := fun j v hv => by
 rw [Nat.zero_add, cell_of_cells (heap_alloc_new w _)]
 unfold bA
 rw [List.getElem?_toArray]
 exact hv
end
section
open Go.RowKit
def setA (cs : Array Value) : Nat → List Value → Array Value
 | _, [] => cs
 | o, v :: r => setA (cs.setIfInBounds o v) (o + 1) r
theorem heap_setA (g : Nat) (t : TypeId) : ∀ (vs : List Value) (o : Nat) (w : World) (cs : Array Value), w.heap[g]? = some (.cells cs t (0, 0)) → (w.setCells g o vs).heap[g]? = some (.cells (setA cs o vs) t (0, 0))
 | [], _, _, _, h => h
 | v :: r, o, w, cs, h => heap_setA g t r (o + 1) _ _ (heap_setCell_same w g o cs t v h)
theorem setA_mid : ∀ (mid mid' pre post : List Value), mid'.length = mid.length → setA (pre ++ (mid ++ post)).toArray pre.length mid' = (pre ++ (mid' ++ post)).toArray
 | [], [], _, _, _ => rfl
 | x :: m, v :: r, pre, post, h => by
  show setA ((pre ++ (x :: m ++ post)).toArray.setIfInBounds pre.length v) (pre.length + 1) r = _
  have e : (pre ++ (x :: m ++ post)).toArray.setIfInBounds pre.length v = ((pre ++ [v]) ++ (m ++ post)).toArray := by
   rw [List.setIfInBounds_toArray]
   congr 1
   rw [List.set_append_right _ _ (Nat.le_refl _), Nat.sub_self]
   simp
  rw [e]
  have := setA_mid m r (pre ++ [v]) post (by simpa using h)
  rw [List.length_append, List.length_singleton] at this
  rw [this]
  simp
theorem range_mid {w : World} {b : Nat} {t : TypeId} {fr : Nat × Nat} {pre mid post : List Value} (h : w.heap[b]? = some (.cells (pre ++ (mid ++ post)).toArray t fr)) : w.rangeAt b pre.length mid := fun j v hv => by
 rw [cell_of_cells h, List.getElem?_toArray, List.getElem?_append_right (by omega), Nat.add_sub_cancel_left, List.getElem?_append_left (List.getElem?_eq_some_iff.1 hv).1]
 exact hv
theorem cell_mid {w : World} {b : Nat} {t : TypeId} {fr : Nat × Nat} {pre post : List Value} {v : Value} (h : w.heap[b]? = some (.cells (pre ++ (v :: post)).toArray t fr)) : w.cell? ⟨b, pre.length, none⟩ = some v := by
 rw [cell_of_cells h, List.getElem?_toArray, List.getElem?_append_right (Nat.le_refl _), Nat.sub_self]; rfl
def pfL (p : Pf) (s : Value) : List Value := .int .i64 p.kind :: .int .i64 p.dep :: (p.lf.map bv ++ (p.bm.map bv ++ [s]))
def pfC (p : Pf) (s : Value) : Array Value := (pfL p s).toArray
theorem pfC_size {p : Pf} (h : p.Ok) (s : Value) : (pfC p s).size = 99 := by simp [pfC, pfL, h.lf, h.bm]
theorem pfC_one (p : Pf) (A : Option Addr) (n c : Nat) : (pfC p (.slice A n c)).all (·.oneCell') = true := by simp [pfC, pfL, bv, Value.oneCell']
theorem infoPf : (Tryz.prog.info? 53).map (·.size) = some 99 := by kernel_rfl
@[go_sem ↓] theorem execOp_loadPf (ρ : Operand → Value) (dst : Option Tmp) (x : Operand) (type : TypeId) (pos : String) (after : Array Edge) (guard : Option (Nat × Bool)) (w : World) :
  Sem.run Tryz.prog (execOp ρ { dst, op := .load 53 x, type, pos, after, guard }) w = ldA 53 w (ρ x) := rfl
@[go_sem ↓] theorem execOp_storePf (ρ : Operand → Value) (dst : Option Tmp) (x y : Operand) (type : TypeId) (pos : String) (after : Array Edge) (guard : Option (Nat × Bool)) (w : World) :
  Sem.run Tryz.prog (execOp ρ { dst, op := .store 53 x y, type, pos, after, guard }) w = stA 53 w (ρ x) (ρ y) := rfl
@[go_sem ↓] theorem execOp_buildPf (ρ : Operand → Value) (dst : Option Tmp) (parts : Array (Nat × Operand)) (type : TypeId) (pos : String) (after : Array Edge) (guard : Option (Nat × Bool)) (w : World) :
  Sem.run Tryz.prog (execOp ρ { dst, op := .build 53 parts, type, pos, after, guard }) w = bldA 53 w (parts.map fun x => (x.1, ρ x.2)) := rfl
def zPf : Pf := ⟨0, 0, z64, z26, []⟩
theorem zPf_ok : zPf.Ok := ⟨rfl, rfl, fun s h => by simp [zPf] at h⟩
theorem zeroPf : ∀ w, (zeroValue 53).run Tryz.prog w = .ok (.agg (pfC zPf (.slice none 0 0))) w := fun _ => by kernel_rfl
attribute [go_sem ↓] zeroPf
def PfAt (w : World) (b : Nat) (p : Pf) (s : Value) : Prop := w.heap[b]? = some (.cells (pfC p s) 53 (0, 0))
theorem PfAt.lt {w : World} {b : Nat} {p : Pf} {s : Value} (h : PfAt w b p s) : b < w.heap.size := lt_of_heap h
theorem PfAt.below {w w' : World} {b B : Nat} {p : Pf} {s : Value} (h : PfAt w b p s) (hb : Below B w w') (hB : b < B) : PfAt w' b p s := by
 unfold PfAt
 rw [hb.block b hB]
 exact h
theorem PfAt.keep {L : Nat → Prop} {w w' : World} {b : Nat} {p : Pf} {s : Value} (h : PfAt w b p s) (hk : Keep L w w') (hL : ¬ L b) : PfAt w' b p s := hk.heap h hL
theorem PfAt.one (w : World) (p : Pf) (s : Value) : PfAt (w.alloc (.cells (pfC p s) 53)) w.heap.size p s := heap_alloc_new w _
theorem stPf_new (w : World) {p z : Pf} (hp : p.Ok) (hz : z.Ok) (A : Option Addr) (n c : Nat) (s0 : Value) : stA 53 (w.alloc (.cells (pfC z s0) 53)) (.pointer (some ⟨w.heap.size, 0, none⟩)) (.agg (pfC p (.slice A n c))) = .ok .skip (w.alloc (.cells (pfC p (.slice A n c)) 53)) :=
 stA_new w _ _ (by rw [pfC_size hp]; exact infoPf) (by rw [pfC_size hp, pfC_size hz]) (pfC_one p A n c)
theorem PfAt.ld {w : World} {b : Nat} {p : Pf} {s : Value} (h : PfAt w b p s) (hp : p.Ok) : ldA 53 w (.pointer (some ⟨b, 0, none⟩)) = .ok (.value (.agg (pfC p s))) w := by
 unfold ldA
 simp only [Instr.loadAt, Instr.sureAddr, Sem.run_bind, Sem.run_pure, Result.andThen_ok]
 rw [run_loadVar_row (P := Tryz.prog) w b 53 53 (pfC p s) (0, 0) _ h Tryz.underlying53 rfl (by rw [pfC_size hp]; exact infoPf)]
 rfl
theorem PfAt.kind {w : World} {b : Nat} {p : Pf} {s : Value} (h : PfAt w b p s) : w.cell? ⟨b, 0, none⟩ = some (.int .i64 p.kind) := by rw [cell_of_cells h]; rfl
theorem PfAt.dep {w : World} {b : Nat} {p : Pf} {s : Value} (h : PfAt w b p s) : w.cell? ⟨b, 1, none⟩ = some (.int .i64 p.dep) := by rw [cell_of_cells h]; rfl
theorem PfAt.lfR {w : World} {b : Nat} {p : Pf} {s : Value} (h : PfAt w b p s) : w.rangeAt b 2 (p.lf.map bv) :=
 range_mid (pre := [.int .i64 p.kind, .int .i64 p.dep]) (mid := p.lf.map bv) (post := p.bm.map bv ++ [s]) h
theorem PfAt.bmR {w : World} {b : Nat} {p : Pf} {s : Value} (h : PfAt w b p s) (hp : p.Ok) : w.rangeAt b 66 (p.bm.map bv) := by
 have := range_mid (pre := .int .i64 p.kind :: .int .i64 p.dep :: p.lf.map bv) (mid := p.bm.map bv) (post := [s]) h
 rwa [show (Value.int .i64 p.kind :: .int .i64 p.dep :: p.lf.map bv).length = 66 by simp [hp.lf]] at this
theorem PfAt.sib {w : World} {b : Nat} {p : Pf} {s : Value} (h : PfAt w b p s) (hp : p.Ok) : w.cell? ⟨b, 98, none⟩ = some s := by
 have := cell_mid (w := w) (b := b) (pre := .int .i64 p.kind :: .int .i64 p.dep :: (p.lf.map bv ++ p.bm.map bv)) (post := []) (v := s) (t := 53) (fr := (0, 0)) (by
  have h' : w.heap[b]? = some (.cells (pfL p s).toArray 53 (0, 0)) := h
  rw [h']
  simp [pfL])
 rwa [show (Value.int .i64 p.kind :: .int .i64 p.dep :: (p.lf.map bv ++ p.bm.map bv)).length = 98 by simp [hp.lf, hp.bm]] at this
theorem PfAt.leaf {w : World} {b : Nat} {p : Pf} {s : Value} (h : PfAt w b p s) (hp : p.Ok) : ldA 50 w (.pointer (some ⟨b, 2, none⟩)) = .ok (.value (.agg (bA p.lf))) w := by
 have hr := h.lfR
 unfold ldA
 rw [Sem.run_bind, run_loadAt_mid (P := Tryz.prog) w b 2 50 (p.lf.map bv) _ hr Tryz.underlying50 rfl (by rw [List.length_map, hp.lf]; exact infoLeaf)]
 simp [Sem.run_pure, Result.andThen_ok, bA]
theorem range_sub {w : World} {b o : Nat} {cs : List Value} (h : w.rangeAt b o cs) (i n : Nat) : w.rangeAt b (o + i) ((cs.drop i).take n) := fun j v hv => by
 rw [List.getElem?_take] at hv
 split at hv
 ·rw [List.getElem?_drop] at hv
  rw [Nat.add_assoc]
  exact h _ v hv
 ·cases hv
theorem PfAt.lkey {w : World} {b : Nat} {p : Pf} {s : Value} (h : PfAt w b p s) (hp : p.Ok) : ldA 48 w (.pointer (some ⟨b, 2, none⟩)) = .ok (.value (.agg (bA (p.lf.take 32)))) w := by
 have := range_sub h.lfR 0 32
 rw [List.drop_zero, ← List.map_take] at this
 exact ldA_of (t := 48) this Tryz.underlying48 (by rw [List.length_map, List.length_take, hp.lf]; exact infoKey)
theorem PfAt.bm {w : World} {b : Nat} {p : Pf} {s : Value} (h : PfAt w b p s) (hp : p.Ok) : Bt.ldAr w (.pointer (some ⟨b, 66, none⟩)) = .ok (.value (.agg (bA p.bm))) w :=
 ldA_of (t := 46) (h.bmR hp) Tryz.underlying46 (by rw [List.length_map, hp.bm]; exact Bt.infoAr)
theorem PfAt.bmA {w : World} {b : Nat} {p : Pf} {s : Value} (h : PfAt w b p s) (hp : p.Ok) : ldA 46 w (.pointer (some ⟨b, 66, none⟩)) = .ok (.value (.agg (bA p.bm))) w :=
 ldA_of (t := 46) (h.bmR hp) Tryz.underlying46 (by rw [List.length_map, hp.bm]; exact Bt.infoAr)
theorem PfAt.setKind {w : World} {b : Nat} {p : Pf} {s : Value} (h : PfAt w b p s) (v : Int) : PfAt (w.setCell ⟨b, 0, none⟩ (.int .i64 v)) b { p with kind := v } s := by
 have := heap_setCell_same w b 0 (pfC p s) 53 (.int .i64 v) h
 unfold PfAt
 rw [this]
 simp [pfC, pfL]
theorem pfC_sib {p : Pf} (hp : p.Ok) (s s' : Value) : (pfC p s).setIfInBounds 98 s' = pfC p s' := by
 have e : (Value.int .i64 p.kind :: .int .i64 p.dep :: (p.lf.map bv ++ p.bm.map bv)).length = 98 := by simp [hp.lf, hp.bm]
 have f : ∀ x, pfC p x = ((Value.int .i64 p.kind :: .int .i64 p.dep :: (p.lf.map bv ++ p.bm.map bv)) ++ [x]).toArray := fun x => by simp [pfC, pfL]
 rw [f, f, List.setIfInBounds_toArray, ← e, List.set_append_right _ _ (Nat.le_refl _), Nat.sub_self]; rfl
theorem PfAt.setSib {w : World} {b : Nat} {p : Pf} {s : Value} (h : PfAt w b p s) (hp : p.Ok) (s' : Value) : PfAt (w.setCell ⟨b, 98, none⟩ s') b p s' := by
 have := heap_setCell_same w b 98 (pfC p s) 53 s' h
 rwa [pfC_sib hp] at this
theorem PfAt.sibs {w : World} {b : Nat} {p : Pf} {s : Value} (h : PfAt w b p s) (ds : List (List UInt8)) : PfAt w b { p with sib := ds } s := h
theorem PfAt.stBm {w : World} {b : Nat} {p : Pf} {s : Value} (h : PfAt w b p s) (hp : p.Ok) (l : List UInt8) (hl : l.length = 32) :
  stA 46 w (.pointer (some ⟨b, 66, none⟩)) (.agg (bA l)) = .ok .skip (w.setCells b 66 (l.map bv)) ∧ PfAt (w.setCells b 66 (l.map bv)) b { p with bm := l } s := by
 refine ⟨?_, ?_⟩
 ·unfold stA
  have ht : w.there b 66 32 := fun j hj => ⟨by
   have := h.bmR hp j ((p.bm.map bv)[j]'(by rw [List.length_map, hp.bm]; exact hj)) (List.getElem?_eq_getElem _)
   rw [this]; rfl, frozen_of_row w b _ _ _ h⟩
  rw [Sem.run_bind, run_storeAt_mid (P := Tryz.prog) w b 66 46 (bA l) (by rw [bA_size, hl]; exact ht) (by rw [bA_size, hl]; exact Bt.infoAr) (bA_one l)]
  simp [Sem.run_pure, Result.andThen_ok, bA]
 ·have := heap_setA b 53 (l.map bv) 66 w (pfC p s) h
  unfold PfAt
  rw [this]
  have e := setA_mid (p.bm.map bv) (l.map bv) (.int .i64 p.kind :: .int .i64 p.dep :: p.lf.map bv) [s] (by rw [List.length_map, List.length_map, hl, hp.bm])
  rw [show (Value.int .i64 p.kind :: .int .i64 p.dep :: p.lf.map bv).length = 66 by simp [hp.lf]] at e
  exact congrArg (fun x => some (Obj.cells x 53 (0, 0))) e
@[go_sem ↓] theorem execOp_eqA32 (ρ : Operand → Value) (dst : Option Tmp) (x y : Operand) (ty type : TypeId) (pos : String) (after : Array Edge) (guard : Option (Nat × Bool)) (w : World) :
  Sem.run Tryz.prog (execOp ρ { dst, op := .binOp .eql 46 x y ty, type, pos, after, guard }) w = eqA .eql 46 x y w (ρ x) (ρ y) := rfl
@[go_sem ↓] theorem execOp_neA32 (ρ : Operand → Value) (dst : Option Tmp) (x y : Operand) (ty type : TypeId) (pos : String) (after : Array Edge) (guard : Option (Nat × Bool)) (w : World) :
  Sem.run Tryz.prog (execOp ρ { dst, op := .binOp .neq 46 x y ty, type, pos, after, guard }) w = eqA .neq 46 x y w (ρ x) (ρ y) := rfl
end
end Go.Proofs.YtjgdindjimbfeaaGreatDoor
