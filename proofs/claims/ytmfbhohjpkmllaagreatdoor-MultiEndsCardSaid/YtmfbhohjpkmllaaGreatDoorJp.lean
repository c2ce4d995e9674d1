import Derived.Test.YtmfbhohjpkmllaaGreatDoorYk
import Derived.Test.YtmfbhohjpkmllaaGreatDoorYa
namespace Go.Proofs.YtmfbhohjpkmllaaGreatDoor
set_option linter.unusedSimpArgs false
set_option linter.unusedVariables false
open Go.RowKit
structure Chg where
 k : List UInt8
 v : List UInt8
 d : Bool
def chkK : List (List UInt8) → Int
 | [] => 0
 | [_] => 0
 | a :: b :: r => if cmpK a b = 0 then 9 else if 0 < cmpK a b then 8 else chkK (b :: r)
def AscS (ks : List (List UInt8)) : Prop := ks.Pairwise LtB
def K32 (ks : List (List UInt8)) : Prop := ∀ k ∈ ks, k.length = 32
theorem chk_asc : ∀ (ks : List (List UInt8)), K32 ks → chkK ks = 0 → AscS ks
 | [], _, _ => List.Pairwise.nil
 | [a], _, _ => List.pairwise_singleton _ _
 | a :: b :: r, hk, h => by
  unfold chkK at h
  by_cases h0 : cmpK a b = 0
  ·rw [if_pos h0] at h; exact absurd h (by decide)
  ·by_cases h1 : 0 < cmpK a b
   ·rw [if_neg h0, if_pos h1] at h; exact absurd h (by decide)
   ·rw [if_neg h0, if_neg h1] at h
    have ih := chk_asc (b :: r) (fun k hm => hk k (by simp [hm])) h
    have hab := LtB.of (hk a (by simp)) (hk b (by simp)) (by omega)
    obtain ⟨i1, _⟩ := List.pairwise_cons.1 ih
    refine List.pairwise_cons.2 ⟨fun x hx => ?_, ih⟩
    rcases List.mem_cons.1 hx with rfl | hx
    ·exact hab
    ·exact hab.trans (i1 x hx)
end Go.Proofs.YtmfbhohjpkmllaaGreatDoor
