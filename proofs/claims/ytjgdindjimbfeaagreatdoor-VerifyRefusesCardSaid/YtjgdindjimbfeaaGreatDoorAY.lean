import Derived.Test.YtjgdindjimbfeaaGreatDoorAA
import Derived.Test.YtjgdindjimbfeaaGreatDoorHH
import Derived.Test.YtjgdindjimbfeaaGreatDoorMO
import Derived.Test.YtjgdindjimbfeaaGreatDoorM4
import Derived.Test.YtjgdindjimbfeaaGreatDoorAD
import Derived.Test.YtjgdindjimbfeaaGreatDoorLM
namespace Go.Proofs.YtjgdindjimbfeaaGreatDoor
set_option linter.unusedSimpArgs false
set_option linter.unusedVariables false
section
open Go.RowKit
theorem Keep.ofB {B : Nat} {a b : World} (h : Below B a b) : Keep (fun i => B ≤ i) a b := ⟨h.os, h.tape, h.output, h.size, fun i _ hl => h.block i (by omega)⟩
end
section
open Go.RowKit
theorem keep_low {w V wr : World} {b g : Nat} (hB : Below w.heap.size w V) (hK : Keep (fun i => i = b ∨ i = g) V wr) (hg : w.heap.size ≤ g) : Keep (fun i => i = b) w wr :=
 ⟨hK.os.trans hB.os, hK.tape.trans hB.tape, hK.output.trans hB.output, Nat.le_trans hB.size hK.size, fun i hi hl => (hK.block i (Nat.lt_of_lt_of_le hi hB.size) (fun h => h.elim hl fun e => by omega)).trans (hB.block i hi)⟩
theorem pf_ptr {w : World} {g j : Nat} {p : Pf} {A : Option Addr} {n c : Nat} {q : Option Addr} (h : PfAt w g p (.slice A n c)) (hc : w.cell? ⟨g, j, none⟩ = some (.pointer q)) : False := by
 rw [cell_of_cells h] at hc
 have h1 := List.mem_of_getElem? (show (pfL p (.slice A n c))[j]? = some (.pointer q) from by simpa [pfC] using hc)
 simp [pfL, bv] at h1
theorem PA.two {w w' : World} {b g : Nat} {n : Int} {c m cs : Nat} {p : Pf} {A As : Option Addr} {ts : List Tv} (h : Hs w b n c) (hP : PfAt w g p (.slice As m cs)) (hA : PA w A ts) (hv : ∀ T ∈ ts, ∃ a, T.val = .pointer a)
  (k : Keep (fun i => i = b ∨ i = g) w w') : PA w' A ts := fun i T hi => by
 obtain ⟨u, o, rfl, h1⟩ := hA i T hi
 obtain ⟨a, ha⟩ := hv T (List.mem_of_getElem? hi)
 refine ⟨u, o, rfl, k.cellAt h1 fun e => ?_⟩
 rcases e with e | e
 ·have e3 : u = b := e
  subst e3
  rw [ha] at h1
  have h0 : (#[Value.int .i64 (c : Int), .int .i64 n] : Array Value)[o + i]? = some (.pointer a) := by
   rw [← cell_of_cells h]; exact h1
  match o + i, h0 with
  | 0, h0 => simp at h0
  | 1, h0 => simp at h0
  | _ + 2, h0 => simp at h0
 ·have e3 : u = g := e
  subst e3
  rw [ha] at h1
  exact pf_ptr hP h1
theorem sib_empty {l : List Ent} {k : List UInt8} (hs : Sep 0 l) {T : Tv} (hT : At l k 0 T) {i : Nat} {S : Tv} (hi : (T.sibs k 0)[i]? = some S) : S = .nil ↔ sibK l k i = [] := by
 have h3 := sib_both hs hT hi 0
 obtain ⟨h1, h2⟩ := At.sib hs T 0 hT i S hi
 rw [Nat.zero_add] at h1 h2
 constructor
 ·rintro rfl
  have : (sibK l k i).length = 0 := h3.2.1.symm
  exact List.length_eq_zero_iff.1 this
 ·intro h
  rw [h] at h2
  obtain ⟨m, hm⟩ : ∃ m, 256 - i = m + 1 := ⟨255 - i, by omega⟩
  rw [hm] at h2
  have h4 : S.tr = .nil := h2
  cases S with
  | nil => rfl
  | leaf v e => cases h4
  | inner v a b => cases h4
end
section
open Go.RowKit
theorem list64 (l : List UInt8) (h : l.length = 64) : l = (List.range 64).map fun j => l.getD j 0 := by
 refine List.ext_getElem (by simp [h]) fun j h1 h2 => ?_
 simp [List.getD_eq_getElem?_getD, h1]
theorem bldPf_f (k d : Int) (f : Nat → UInt8) (w : World) : bldA 53 w #[(0, .int .i64 k), (1, .int .i64 d), (2, .agg (bA ((List.range 64).map f)))] = .ok (.value (.agg (pfC ⟨k, d, (List.range 64).map f, z26, []⟩ (.slice none 0 0)))) w := by kernel_rfl
theorem bldPf_kdl (k d : Int) (l : List UInt8) (hl : l.length = 64) (w : World) : bldA 53 w #[(0, .int .i64 k), (1, .int .i64 d), (2, .agg (bA l))] = .ok (.value (.agg (pfC ⟨k, d, l, z26, []⟩ (.slice none 0 0)))) w := by
 rw [list64 l hl]
 exact bldPf_f k d _ w
theorem fin_both {l : List Ent} {k : List UInt8} (hs : Sep 0 l) {T : Tv} (hT : At l k 0 T) (n : Int) :
  kindT (T.fin k 0).tr = kindO (dK l k (T.dep k 0)) ∧ leafV n (T.fin k 0).tr = leafO n (dK l k (T.dep k 0)) := by
 obtain ⟨i1, i2, _⟩ := At.fin hs T 0 hT
 have hf := i1.few hs i2
 have htr := i1.tr
 have hle := i1.le
 obtain ⟨m, hm⟩ : ∃ m, 257 - T.dep k 0 = m + 1 := ⟨256 - T.dep k 0, by omega⟩
 rw [hm] at htr
 match hd : dK l k (T.dep k 0) with
 | [] => rw [hd] at htr; exact ⟨by rw [htr]; rfl, by rw [htr]; rfl⟩
 | [e] => rw [hd] at htr; exact ⟨by rw [htr]; rfl, by rw [htr]; rfl⟩
 | a :: b :: r => rw [hd] at hf; simp at hf
theorem kcb {k : Nat → Nat} (hk : Bt.Byt k) : Bt.kc k = bA (bmL k) := by
 rw [bA_key _ (bmL_len k)]
 exact Bt.kc_congr fun j hj => (keyF_bmL hk j hj).symm
theorem ofK_snoc (l : List Int) (d : Int) : Bt.ofK (l ++ [d]) = Bt.insK (Bt.ofK l) d := by
 unfold Bt.ofK Bt.ofFrom
 rw [List.foldl_append]; rfl
theorem bmL_zero : bmL (Bt.ofK []) = z26 := by kernel_rfl
theorem withB_c (l : List Int) (d : Int) (w : World) : Calls Tryz.prog 58 #[.agg (bA (bmL (Bt.ofK l))), .int .i64 d] w fun e w' => e = .returned (.agg (bA (bmL (Bt.ofK (l ++ [d]))))) ∧ Below w.heap.size w w' := by
 have := Bt.with_c (Bt.ofK l) (Bt.ofK_byt l) d w
 rwa [kcb (Bt.ofK_byt l), ← ofK_snoc, kcb (Bt.ofK_byt _)] at this
theorem kind_two {T : Tv} (h : T ≠ .nil) : (kindT T.tr == 0) = false := by
 cases T with
 | nil => exact absurd rfl h
 | leaf v e => rfl
 | inner v a b => rfl
theorem keep_set15 (g : Nat) : ∀ (vs : List Value) (o : Nat) (w : World), Keep (fun i => i = g) w (w.setCells g o vs)
 | [], _, _ => Keep.refl _ _
 | v :: r, o, w => (Keep.cell w ⟨g, o, none⟩ v).trans (keep_set15 g r (o + 1) _)
theorem rp_end3 {B g b : Nat} {V Y1 w9 : World} {p : Pf} {s s' : Value} {l : List (List UInt8)}
  (hB : B = V.heap.size) (hgV : g < V.heap.size) (hp : p.Ok) (hK : Keep (fun i => i = b ∨ i = g) V Y1) (hS : Keep (fun i => i = b ∨ V.heap.size ≤ i) Y1 w9) (hO : OwnD w9 B s' l) (hP : PfAt w9 g p s) :
  Hid (PfAt (w9.setCell ⟨g, 98, none⟩ s') g p s') ∧ Hid (OwnD (w9.setCell ⟨g, 98, none⟩ s') B s' l) ∧ Hid (Keep (fun i => i = b ∨ i = g) V (w9.setCell ⟨g, 98, none⟩ s')) := by
 have k : Keep (fun i => i = g) w9 (w9.setCell ⟨g, 98, none⟩ s') := Keep.cell w9 ⟨g, 98, none⟩ s'
 refine ⟨hP.setSib hp s', ?_, ?_⟩
 ·exact row11_other hO fun i cs h1 hh => by
   have := hO.ge i h1
   rw [heap_setCell_other _ _ _ _ (show i ≠ g by omega)]
   exact hh
 ·exact ⟨k.os.trans (hS.os.trans hK.os), k.tape.trans (hS.tape.trans hK.tape), k.output.trans (hS.output.trans hK.output), Nat.le_trans hK.size (Nat.le_trans hS.size k.size), fun i hi hl =>
   (k.block i (Nat.lt_of_lt_of_le hi (Nat.le_trans hK.size hS.size)) (fun e => hl (.inr e))).trans ((hS.block i (Nat.lt_of_lt_of_le hi hK.size) (fun e => e.elim (fun e => hl (.inl e)) fun e => by omega)).trans (hK.block i hi hl))⟩
end
end Go.Proofs.YtjgdindjimbfeaaGreatDoor
