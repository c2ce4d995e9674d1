import Derived.Test.YtjgdindjimbfeaaGreatDoorMM
import Derived.Test.YtjgdindjimbfeaaGreatDoorMO
import Derived.Test.YtjgdindjimbfeaaGreatDoorMD
import Derived.Test.YtjgdindjimbfeaaGreatDoorM2
import Derived.Test.YtjgdindjimbfeaaGreatDoorM6
import Derived.Lib.AppendZeros
namespace Go.Proofs.YtjgdindjimbfeaaGreatDoor
set_option linter.unusedSimpArgs false
set_option linter.unusedVariables false
section
open Go.RowKit
def Apt (d : Int) (l : List Ent) (e : Ent) : Prop := e.k.length = 32 ∧ ∀ a ∈ l, ∀ i : Nat, (i : Int) < d → i < 256 → Bt.bit (keyF a.k) i = Bt.bit (keyF e.k) i
theorem Apt.part {d b : Int} {l : List Ent} {e : Ent} (h : Apt d l e) (h0 : 0 ≤ d) (h1 : d < 256) (hb : bitK e.k d = b) : Apt (d + 1) (partK l d b) e := ⟨h.1, fun a ha i hi h2 => by
 obtain ⟨ha1, ha2⟩ := List.mem_filter.1 ha
 by_cases hd : (i : Int) < d
 ·exact h.2 a ha1 i hd h2
 ·have e1 := of_decide_eq_true ha2
  rw [← hb, bitK_in _ h0 h1, bitK_in _ h0 h1, show d.toNat = i by omega] at e1
  exact Int.ofNat.inj e1⟩
end
section
open Go.RowKit
structure SubMap (d : Nat) (l : List Ent) (T : Tv) : Prop where
 sep : Sep d l
 tr : T.tr = growT (257 - d) l d
theorem SubMap.map {l : List Ent} {T : Tv} (h : SubMap 0 l T) : IsMap l T := ⟨h.sep, h.tr⟩
structure Made (M : World → Int → Tv → Prop) (w : World) (b : Nat) (n : Int) (T T' : Tv) (m : Nat) (w' : World) : Prop where
 ms : M w' n T'
 hs : ∃ c', c' ≤ m ∧ Hs w' b n c'
 keep : Keep (fun i => i = b) w w'
 aft : ∀ w2, Keep (fun i => i < w.heap.size) w' w2 → M w2 n T → M w2 n T'
structure PtV (M : World → Int → Tv → Prop) : Prop where
end
section
open Go.RowKit
theorem SubMap.inner {d : Nat} {l : List Ent} {v : Value} {a b : Tv} (h : SubMap d l (.inner v a b)) (hd : d ≤ 256) : d < 256 ∧ SubMap (d + 1) (partK l d 0) a ∧ SubMap (d + 1) (partK l d 1) b := by
 have ht := h.tr
 have hl : 2 ≤ l.length := by
  rcases Nat.lt_or_ge l.length 2 with hl | hl
  ·match l, hl, ht with
   | [], _, ht => rw [growT_none] at ht; cases ht
   | [e], _, ht => rw [growT_one] at ht; cases ht
  ·exact hl
 have h256 : d < 256 := by have := h.sep.two hl; omega
 have s0 := h.sep.part (by omega) (by omega) 0
 have s1 := h.sep.part (by omega) (by omega) 1
 have g0 := grow_both 0 (256 - d) (partK l d 0) (d + 1) s0 (.inr ⟨by omega, by omega, by omega⟩)
 have g1 := grow_both 0 (256 - d) (partK l d 1) (d + 1) s1 (.inr ⟨by omega, by omega, by omega⟩)
 have hsum := parts_sum l (d := d) (by omega) (by omega)
 rw [show 257 - d = (256 - d) + 1 by omega, growT_two _ _ _ hl, joinT_inner _ _ (by rw [g0.1, g1.1]; omega)] at ht
 injection ht with hta htb
 exact ⟨h256, ⟨s0, by rw [hta, show 257 - (d + 1) = 256 - d by omega]; rfl⟩, ⟨s1, by rw [htb, show 257 - (d + 1) = 256 - d by omega]; rfl⟩⟩
end
section
open Go.RowKit
end
section
open Go.RowKit
end
section
open Go.RowKit
end
section
open Go.RowKit
theorem hash_any (n : Int) (w : World) : Calls Tryz.prog 12 #[.int .i64 n] w fun e w' => ∃ p, e = .returned (.pointer p) ∧ Below w.heap.size w w' := by
 rcases Classical.em (n < 0 ∨ 256 < n) with h | h
 ·exact (hash_out n w h).mono fun e w' ⟨he, hb⟩ => ⟨none, he, hb⟩
 ·exact (hash_in n w (by omega) (by omega)).mono fun e w' ⟨b, he, _, _, hb⟩ => ⟨some ⟨b, 0, none⟩, he, hb⟩
structure Tf (M : World → Int → Tv → Prop) (W : World) (n : Int) (A : Option Addr) (m : List En) (T : Tv) (b c : Nat) (w : World) : Prop where
 fs : Fs M W n A m T w
 hs : ∃ c', c' ≤ c ∧ Hs w b n c'
 new : W.heap.size ≤ b
end
section
open Go.RowKit
end
end Go.Proofs.YtjgdindjimbfeaaGreatDoor
