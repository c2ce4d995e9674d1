import Derived.Test.YtmfbhohjpkmllaaGreatDoorMT
import Derived.Test.YtmfbhohjpkmllaaGreatDoorM4
namespace Go.Proofs.YtmfbhohjpkmllaaGreatDoor
set_option linter.unusedSimpArgs false
set_option linter.unusedVariables false
open Go.RowKit
def LtB (a b : List UInt8) : Prop := ∃ i : Nat, i < 256 ∧ (∀ j : Nat, j < i → bitK a j = bitK b j) ∧ bitK a i = 0 ∧ bitK b i = 1
theorem cmpK_com {a b : List UInt8} (h : comK a b < 256) : cmpK a b = bitK a (comK a b : Nat) - bitK b (comK a b : Nat) := by
 rw [bitK_in a (by omega) (by omega), bitK_in b (by omega) (by omega), Int.toNat_natCast]
 exact Bt.cmp_bit (keyF_byt _) (keyF_byt _) h
theorem cmpK_self (a : List UInt8) : cmpK a a = 0 := Bt.cmp_eq fun _ _ => rfl
theorem LtB.of {a b : List UInt8} (ha : a.length = 32) (hb : b.length = 32) (h : cmpK a b < 0) : LtB a b := by
 have hne : a ≠ b := fun e => by rw [e, cmpK_self] at h; omega
 have hc := com_lt ha hb hne
 have h1 := cmpK_com hc
 have h2 := bitK_01 a (comK a b) hc
 have h3 := bitK_01 b (comK a b) hc
 exact ⟨comK a b, hc, (com_bits (a := a) (b := b) (i := comK a b) (by omega)).1 (Nat.le_refl _), by omega, by omega⟩
theorem LtB.trans {a b c : List UInt8} (h : LtB a b) (k : LtB b c) : LtB a c := by
 obtain ⟨i, hi, he, h0, h1⟩ := h
 obtain ⟨j, hj, hf, k0, k1⟩ := k
 rcases Nat.lt_trichotomy i j with hlt | rfl | hlt
 ·exact ⟨i, hi, fun m hm => (he m hm).trans (hf m (by omega)), h0, by rw [← hf i hlt]; exact h1⟩
 ·omega
 ·exact ⟨j, hj, fun m hm => (he m (by omega)).trans (hf m hm), by rw [he j hlt]; exact k0, k1⟩
end Go.Proofs.YtmfbhohjpkmllaaGreatDoor
