/- Decimals: strconv.Itoa's contract, Errno's text. -/
import Derived.Test.YtnmjcfpmljahcaaDoorKit
import Derived.Test.YtnmjcfpmljahcaaDoorPure
import Derived.Test.YtnmjcfpmljahcaaDoorL
import Derived.Lib.AppendIntMem
namespace Go.Proofs.YtnmjcfpmljahcaaDoor
open Go.RowKit

def Tab (w : World) : Prop := Lib.TabIs Tryd.prog w "internal/strconv.uint64pow10" .u64 Lib.pow10Tab
theorem Tab.below {w w' : World} (h : Tab w) (hb : Below w.heap.size w w') : Tab w' := Lib.tabBelow_of_tabIs h w' hb
/-- The number n can be written: it is small, or the table is in its place. -/
def Dig (w : World) (n : Int) : Prop := (∃ i : Nat, i < 100 ∧ n = i) ∨ ((-9223372036854775808 ≤ n ∧ n ≤ 9223372036854775807) ∧ Tab w)
theorem Dig.below {w w' : World} {n : Int} (h : Dig w n) (hb : Below w.heap.size w w') : Dig w' n := h.imp id fun ⟨a, b⟩ => ⟨a, b.below hb⟩
theorem Dig.bound {w : World} {n : Int} (h : Dig w n) : -9223372036854775808 ≤ n ∧ n ≤ 9223372036854775807 := by
  rcases h with ⟨i, hi, rfl⟩ | ⟨h, _⟩
  · omega
  · exact h
theorem Dig.len {w : World} {n : Int} (h : Dig w n) : (Lib.itoa n).length ≤ 21 := itoa_len n h.bound.1 h.bound.2
theorem below_grow (w : World) (os : Array Obj) : Below w.heap.size w (Sort.grow w os) :=
  ⟨rfl, rfl, rfl, by simp [Sort.grow], fun k hk => by simp [Sort.grow, Array.getElem?_append_left hk]⟩
theorem itoa_c (n : Int) (w : World) (h : Dig w n) : Calls Tryd.prog 26 #[.int .i64 n] w fun e w' => e = .returned (.string ⟨(Lib.itoa n).toArray⟩) ∧ Below w.heap.size w w' := by
  rcases h with ⟨i, hi, rfl⟩ | ⟨⟨h0, h1⟩, ht⟩
  · refine (strconv_Itoa_small i hi w).mono ?_
    rintro e w' ⟨rfl, rfl⟩
    refine ⟨?_, Below.refl _ _⟩
    have : Lib.itoa (i : Int) = Lib.decDigits i := by unfold Lib.itoa; rw [if_neg (by omega)]; rfl
    rw [this]
  · refine (strconv_Itoa n h0 h1 w ht).mono ?_
    rintro e w' ⟨rfl, k, os, rfl⟩
    exact ⟨rfl, (below_drewN (Below.refl _ _) k).trans (below_grow (w.drewN k) os)⟩

theorem ba_app (a : Array UInt8) (l : List UInt8) : (⟨a⟩ : ByteArray) ++ ⟨l.toArray⟩ = ⟨(a.toList ++ l).toArray⟩ := by
  apply ByteArray.ext
  simp

set_option maxHeartbeats 4000000 in
set_option maxRecDepth 100000 in
theorem errno_c (c : Int) (w : World) (h : Dig w c) : Calls Tryd.prog 70 #[.int .i64 c] w fun e w' => e = .returned (.string ⟨(errText c).toArray⟩) ∧ Below w.heap.size w w' := by
  have hl := h.len
  have H := Lib.hid h
  clear h
  go_enter Tryd.func70, Tryd.ntmps70
  go_wp2_with (go_at_call 26; refine (itoa_c c _ H.out).mono ?_; rintro e w1 ⟨rfl, hB⟩; have HB := Lib.hid hB; clear hB)
  go_ret
  exact ⟨ret_str (by rw [ba_app]; rfl), HB.out⟩
end Go.Proofs.YtnmjcfpmljahcaaDoor
