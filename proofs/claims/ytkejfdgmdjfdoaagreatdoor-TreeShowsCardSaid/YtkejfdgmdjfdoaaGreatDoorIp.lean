import Derived.Test.YtkejfdgmdjfdoaaGreatDoorT2
import Derived.Test.YtkejfdgmdjfdoaaGreatDoorIj
import Derived.Test.YtkejfdgmdjfdoaaGreatDoorG6
import Derived.Test.YtkejfdgmdjfdoaaGreatDoorML
import Derived.Test.YtkejfdgmdjfdoaaGreatDoorG1
namespace Go.Proofs.YtkejfdgmdjfdoaaGreatDoor
set_option linter.unusedSimpArgs false
set_option linter.unusedVariables false
open Go.RowKit
def Byt8 (w : World) (g n : Nat) : Prop := ∃ cs t, w.heap[g]? = some (.cells cs t (0, 0)) ∧ ∀ j, j < n → ∃ z : UInt8, cs[j]? = some (bv z)
def WRow (L : Nat → Prop) (w : World) (A : Option Addr) (n : Nat) : Prop := n = 0 ∨ ∃ g, A = some ⟨g, 0, none⟩ ∧ L g ∧ Byt8 w g n
theorem WRow.of_ba {L : Nat → Prop} {w : World} {A : Option Addr} {l : List UInt8} (h : l = [] ∨ ∃ g, A = some ⟨g, 0, none⟩ ∧ L g ∧ CellsAt w g) (hb : BA w A l) : WRow L w A l.length := by
 rcases h with rfl | ⟨g, rfl, hL, cs, t, hc⟩
 ·exact .inl rfl
 ·refine .inr ⟨g, rfl, hL, cs, t, hc, fun j hj => ⟨l[j], ?_⟩⟩
  obtain ⟨b, o, e, h1⟩ := hb j l[j] (List.getElem?_eq_getElem hj)
  cases e
  rw [Nat.zero_add, cell_of_cells hc] at h1
  exact h1
structure WR (L : Nat → Prop) (w0 : World) (rs : List (Option Addr × Nat)) (w : World) : Prop where
 keep : Keep L w0 w
 sl : ∀ (a : Addr) (A : Option Addr) (n c : Nat), w0.cell? a = some (.slice A n c) → w.cell? a = some (.slice A n c)
 rows : ∀ r ∈ rs, WRow L w r.1 r.2
theorem WR.write {L : Nat → Prop} {w0 w : World} {rs : List (Option Addr × Nat)} (h : WR L w0 rs w) {A : Option Addr} {n : Nat} (hr : (A, n) ∈ rs) {k : Nat} (hk : k < n) :
  ∃ (g : Nat) (y : UInt8), A = some ⟨g, 0, none⟩ ∧ w.cell? ⟨g, k, none⟩ = some (.int .u8 (y.toNat : Int)) ∧ w.frozen? ⟨g, k, none⟩ = false ∧ ∀ z : UInt8, WR L w0 rs (w.setCell ⟨g, k, none⟩ (bv z)) := by
 rcases h.rows _ hr with h0 | ⟨g, e, hL, cs, t, hc, hb⟩
 ·have h0' : n = 0 := h0
  omega
 ·have e' : A = some ⟨g, 0, none⟩ := e
  obtain ⟨y, hy⟩ := hb k hk
  refine ⟨g, y, e', by rw [cell_of_cells hc]; exact hy, frozen_of_row w _ _ _ _ hc, fun z => ?_⟩
  have hs := set_row (w := w) (i := k) (v := bv z) hc
  have hkp := Keep.cell w ⟨g, k, none⟩ (bv z)
  refine ⟨h.keep.trans (hkp.mono fun i hi => ?_), fun a A' n' c' ha => ?_, fun r hr' => ?_⟩
  ·have e2 : i = g := hi
   rw [e2]; exact hL
  ·have h1 := h.sl a A' n' c' ha
   by_cases hg : a.block = g
   ·obtain ⟨ab, ao, spot⟩ := a
    have hspot : spot = none := World.cell?_spot h1
    subst hspot
    have e2 : ab = g := hg
    subst e2
    rw [cell_of_cells hc] at h1
    have hne : k ≠ ao := fun e3 => by
     subst e3
     have h2 : cs[k]? = some (.slice A' n' c') := h1
     rw [hy] at h2
     cases h2
    rw [cell_of_cells hs]
    show (cs.setIfInBounds k (bv z))[ao]? = _
    rw [Array.getElem?_setIfInBounds_ne hne]
    exact h1
   ·exact hkp.cellAt h1 hg
  ·rcases h.rows r hr' with h1 | ⟨g', e1, hL', cs', t', hc', hb'⟩
   ·exact .inl h1
   ·refine .inr ⟨g', e1, hL', ?_⟩
    by_cases hg : g' = g
    ·subst hg
     rw [hc] at hc'
     cases hc'
     refine ⟨_, _, hs, fun j hj => ?_⟩
     by_cases hjk : k = j
     ·subst hjk
      refine ⟨z, ?_⟩
      rw [Array.getElem?_setIfInBounds_self_of_lt]
      obtain ⟨hlt, _⟩ := Array.getElem?_eq_some_iff.1 hy
      exact hlt
     ·obtain ⟨z', hz'⟩ := hb' j hj
      exact ⟨z', by rw [Array.getElem?_setIfInBounds_ne hjk]; exact hz'⟩
    ·exact ⟨cs', t', hkp.heap hc' hg, hb'⟩
theorem WR.start {L : Nat → Prop} {w : World} {rs : List (Option Addr × Nat)} (h : ∀ r ∈ rs, WRow L w r.1 r.2) : WR L w rs w := ⟨Keep.refl _ _, fun _ _ _ _ h => h, h⟩
theorem own_empty (w : World) : OwnB (w.alloc (.cells #[] 5)) w.heap.size (.slice (some ⟨w.heap.size, 0, none⟩) 0 0) [] := World.ownsRow_made w #[] 0 (Nat.le_refl _) (by unfold maxLen; omega) rfl
theorem ea_one {w : World} {g : Nat} {e : En} (h : EnOk w e) (hr : w.rangeAt g 0 (enC e)) : EA w (some ⟨g, 0, none⟩) [e] := fun i x hi => by
 match i, hi with
 | 0, hi =>
  obtain rfl : e = x := by simpa using hi
  exact ⟨h, g, 0, rfl, by simpa using hr⟩
 | i + 1, hi => simp at hi
theorem valK_one (k v : List UInt8) : valK [⟨k, v⟩] k = some v := by rw [valK_cons, if_pos rfl]
structure RT (M : World → Int → Tv → Prop) (Tr : World → Nat → Nat → Int → Tv → Prop) (w : World) (p b : Nat) (n : Int) (l : List Ent) (c : Nat) (T : Tv) (X : World) : Prop where
 tr : Tr X p b n T
 hs : ∃ c', c' ≤ c ∧ Hs X b n c'
 ms : M X n T
 im : IsMap l T
 bel : Below w.heap.size w X
 new : w.heap.size ≤ p ∧ w.heap.size ≤ b
section
variable {M : World → Int → Tv → Prop} {Tr : World → Nat → Nat → Int → Tv → Prop} {w X X' : World} {p b : Nat} {n : Int} {l : List Ent} {c m : Nat} {T : Tv}
theorem RT.below (nd : NdV M) (tv : TrV M Tr) (h : RT M Tr w p b n l c T X) (hb : Below X.heap.size X X') : RT M Tr w p b n l c T X' := by
 obtain ⟨c', h1, h2⟩ := h.hs
 exact ⟨tv.keep h.tr (Keep.of_below (L := fun _ => False) hb) (fun h => h), ⟨c', h1, h2.keep (Keep.of_below (L := fun _ => False) hb) fun h => h⟩, nd.below h.ms hb, h.im, h.bel.trans (hb.mono h.bel.size), h.new⟩
theorem RT.idle (nd : NdV M) (tv : TrV M Tr) (h : RT M Tr w p b n l c T X) (hi : Idle X b n m X') : RT M Tr w p b n l m T X' := by
 obtain ⟨c', _, h2⟩ := h.hs
 exact ⟨tv.keep h.tr hi.keep (tv.ne h.tr h2), hi.hs, nd.hs h.ms h2 hi.keep, h.im, h.bel.trans (hi.keep.below h.bel.size fun i e => by have e2 : i = b := e; rw [e2]; exact h.new.2), h.new⟩
theorem RT.ea (tv : TrV M Tr) (h : RT M Tr w p b n l c T X) (hi : Idle X b n m X') {A : Option Addr} {es : List En} (hA : EA X A es) : EA X' A es := by
 obtain ⟨c', _, h2⟩ := h.hs
 exact hA.ctl hi.keep fun i e => by have e2 : i = b := e; rw [e2]; exact h2.ctl
theorem RT.differs (nd : NdV M) (tv : TrV M Tr) (h : RT M Tr w p b n l c T X) (hV : Vars w) (hc : c ≤ 20000000) (hS : Asc l) {A : Option Addr} {cA : Nat} {e : En} (hA : EA X A [e]) (hl : [e.ent] = l) (he : e.v.length ≤ 70000) :
  Calls Tryz.prog 14 #[.pointer (some ⟨p, 0, none⟩), .int .i64 n, .slice A 1 cA] X fun x w' => x = .returned (.int .i64 0) ∧ RT M Tr w p b n l (c + 10) T w' := by
 obtain ⟨c', h1, h2⟩ := h.hs
 subst hl
 refine (differs_c nd tv X p b n c' T A cA [e] h.tr h2 (by omega) (hV.below h.bel) h.ms h.im hS hA (by simp) (fun x hx => by obtain rfl := List.mem_singleton.1 hx; exact he)).mono ?_
 rintro x w' ⟨rfl, hi⟩
 obtain ⟨c2, hc2, hh2⟩ := hi.hs
 exact ⟨rfl, h.idle nd tv ⟨⟨c2, by omega, hh2⟩, hi.keep⟩⟩
theorem RT.root (nd : NdV M) (tv : TrV M Tr) (h : RT M Tr w p b n l c T X) (hV : Vars w) (hc : c ≤ 20000000) :
  Calls Tryz.prog 16 #[.pointer (some ⟨p, 0, none⟩)] X fun x w' => x = .returned (.agg (bA (digT n T.tr))) ∧ RT M Tr w p b n l (c + 10) T w' := by
 obtain ⟨c', h1, h2⟩ := h.hs
 refine (tv.root X p b n c' T h.tr h2 (by omega) (hV.below h.bel) h.ms).mono ?_
 rintro x w' ⟨rfl, hi⟩
 obtain ⟨c2, hc2, hh2⟩ := hi.hs
 exact ⟨rfl, h.idle nd tv ⟨⟨c2, by omega, hh2⟩, hi.keep⟩⟩
theorem RT.digest (nd : NdV M) (tv : TrV M Tr) (h : RT M Tr w p b n l c T X) (hV : Vars w) (hc : c ≤ 20000000) :
  Calls Tryz.prog 26 #[.pointer (some ⟨b, 0, none⟩), T.val] X fun x w' => x = .returned (.agg (bA (digT n T.tr))) ∧ RT M Tr w p b n l (c + 1) T w' := by
 obtain ⟨c', h1, h2⟩ := h.hs
 refine (nd.digest X b n c' T h2 (by omega) (hV.below h.bel) h.ms).mono ?_
 rintro x w' ⟨c2, rfl, hc2, _, hh2, hk⟩
 exact ⟨rfl, h.idle nd tv ⟨⟨c2, by omega, hh2⟩, hk⟩⟩
theorem RT.bits (h : RT M Tr w p b n l c T X) : Calls Tryz.prog 25 #[.pointer (some ⟨b, 0, none⟩)] X fun x w' => x = .returned (.int .i64 n) ∧ X = w' := by
 obtain ⟨c', h1, h2⟩ := h.hs
 exact bits_c b n c' X h2
end
end Go.Proofs.YtkejfdgmdjfdoaaGreatDoor
