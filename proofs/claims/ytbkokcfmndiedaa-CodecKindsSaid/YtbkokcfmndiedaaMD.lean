/- Several texts in one: Rt Df Dh Dn Dm. -/
import Derived.Test.YtbkokcfmndiedaaM5
import Derived.IntWalk
import Derived.Test.YtbkokcfmndiedaaM2
/- The reference's Right of layer 5. -/
namespace Go.Proofs.Ytbkokcfmndiedaa
open Go.RowKit
end Go.Proofs.Ytbkokcfmndiedaa

/- The program's limit, first and Cut of layer 5. -/
namespace Go.Proofs.Ytbkokcfmndiedaa
open Go.RowKit

/-- The number from 0 to M that is closest to i. -/
def limI (i M : Int) : Nat := (max 0 (min i M)).toNat
theorem limI_le (i M : Int) (h : 0 ≤ M) : (limI i M : Int) ≤ M := by unfold limI; omega
theorem limI_256 (i : Int) : limI i 256 = Bt.lim i := rfl
/-- The byte whose first k bits are 1. -/
def fst8 (k : Nat) : Nat := 255 - 255 / 2 ^ k
theorem fst8_lt (k : Nat) : fst8 k < 256 := Nat.lt_of_le_of_lt (Nat.sub_le _ _) (by decide)
/-! ### Cut -/
theorem pre_first (k : Nat → Nat) (hk : Bt.Byt k) (m j : Nat) : Bt.pre k m j = k j &&& fst8 (limI ((m : Int) - 8 * (j : Int)) 8) := by
  have hx := hk j
  unfold Bt.pre
  rcases Nat.lt_trichotomy j (m / 8) with h | h | h
  · rw [if_pos h, show limI ((m : Int) - 8 * (j : Int)) 8 = 8 by unfold limI; omega, show fst8 8 = 2 ^ 8 - 1 from rfl, Nat.and_two_pow_sub_one_eq_mod]
    omega
  · rw [if_neg (by omega), if_pos h, show limI ((m : Int) - 8 * (j : Int)) 8 = m % 8 by unfold limI; omega]
    unfold fst8
    rw [Bt.andNot_rest _ _ hx (by omega)]
  · rw [if_neg (by omega), if_neg (by omega), show limI ((m : Int) - 8 * (j : Int)) 8 = 0 by unfold limI; omega, show fst8 0 = 0 from rfl]
    simp
/-- The digest while its bytes are cut, k of them. -/
def mixL (n : Int) (l : List UInt8) (k : Nat) : List UInt8 := (List.range 32).map fun j => if j < k then (cutL n l).getD j 0 else l.getD j 0
theorem mix_len (n : Int) (l : List UInt8) (k : Nat) : (mixL n l k).length = 32 := by simp [mixL]
theorem mix_at (n : Int) (l : List UInt8) (k j : Nat) (h : j < 32) : (mixL n l k).getD j 0 = if j < k then (cutL n l).getD j 0 else l.getD j 0 := by
  simp [mixL, List.getD_eq_getElem?_getD, h]
theorem ext32 {a b : List UInt8} (ha : a.length = 32) (hb : b.length = 32) (h : ∀ j, j < 32 → a.getD j 0 = b.getD j 0) : a = b := by
  refine List.ext_getElem (by omega) fun j h1 h2 => ?_
  have := h j (by omega)
  simpa [List.getD_eq_getElem?_getD, h1, h2] using this
theorem mix_zero (n : Int) (l : List UInt8) (hl : l.length = 32) : mixL n l 0 = l := ext32 (mix_len _ _ _) hl fun j hj => by
  rw [mix_at _ _ _ _ hj, if_neg (by omega)]
theorem mix_end (n : Int) (l : List UInt8) : mixL n l 32 = cutL n l := ext32 (mix_len _ _ _) (cutL_len _ _) fun j hj => by
  rw [mix_at _ _ _ _ hj, if_pos hj]
theorem mix_step (n : Int) (l : List UInt8) (k : Nat) (hk : k < 32) :
    (bA (mixL n l k)).setIfInBounds k (.int .u8 (((l.getD k 0).toNat &&& fst8 (limI ((Bt.lim n : Nat) - 8 * (k : Int)) 8) : Nat) : Int)) = bA (mixL n l (k + 1)) := by
  have h1 := kF_cutL n l k hk
  rw [pre_first _ (kF_byt l)] at h1
  have h2 : (.int .u8 (((l.getD k 0).toNat &&& fst8 (limI ((Bt.lim n : Nat) - 8 * (k : Int)) 8) : Nat) : Int) : Value) = bv ((cutL n l).getD k 0) := by
    rw [bv]
    unfold kF at h1
    rw [h1]
  rw [h2, bA_set]
  congr 1
  refine ext32 (by rw [List.length_set, mix_len]) (mix_len _ _ _) fun j hj => ?_
  rw [mix_at _ _ _ _ hj, List.getD_eq_getElem?_getD, List.getElem?_set]
  by_cases e : k = j
  · subst e
    rw [if_pos rfl, if_pos (by rw [mix_len]; exact hk), if_pos (by omega)]
    rfl
  · rw [if_neg e, ← List.getD_eq_getElem?_getD, mix_at _ _ _ _ hj]
    by_cases h3 : j < k
    · rw [if_pos h3, if_pos (by omega)]
    · rw [if_neg h3, if_neg (by omega)]
end Go.Proofs.Ytbkokcfmndiedaa

/- The program's hasher. -/
namespace Go.Proofs.Ytbkokcfmndiedaa
open Go.RowKit

/-- A pointer to a block. -/
abbrev ptr (b : Nat) : Value := .pointer (some ⟨b, 0, none⟩)
theorem wp_region_later_tail {P : Program} {id : Nat} {Q : Exit → Act → World → Prop} {a : Act} {w : World} {l : List Oper} (n : Nat) (hm : P.follows .mixedOrders = true) (hB : Region.lexTailB .any l.toArray n = true)
    (h : wpQuiet P l.toArray (fun w' => ∃ x : Later w, w' = x.w) (fun a' => ∀ w', (∃ x : Later w, w' = x.w) → wpList P l.toArray Q (l.drop n) a' w') (l.take n) a) : (Code.region id l.toArray true).wp P Q a w :=
  wp_region_quiet_tail (C := fun w' => ∃ x : Later w, w' = x.w) n hm hB ⟨⟨w.drew, (Below.refl _ _).drew⟩, rfl⟩ h
end Go.Proofs.Ytbkokcfmndiedaa

/- The program's New. -/
namespace Go.Proofs.Ytbkokcfmndiedaa
open Go.RowKit

end Go.Proofs.Ytbkokcfmndiedaa

/- The program's Bits, Calls, Fork. -/
namespace Go.Proofs.Ytbkokcfmndiedaa
open Go.RowKit
end Go.Proofs.Ytbkokcfmndiedaa
