/- The reference of layer 6: Empty; the reference of layer 7: the root as data. -/
import Derived.Test.YtaajnjddfcdeaaaDoorLr
import Derived.Test.YtaajnjddfcdeaaaDoorEb
import Derived.Test.YtaajnjddfcdeaaaDoorM4
namespace Go.Proofs.YtaajnjddfcdeaaaDoor
open Go.RowKit
/-- The digest of the subtree of a map, by the number of levels left. -/
def rootK : Nat → Int → List Ent → Int → List UInt8
  | 0, n, l, _ => match l with
    | [] => digL n emptyL
    | e :: _ => digL n (leafL e.k (digL n (valL e.v)))
  | f + 1, n, l, d => match l with
    | [] => digL n emptyL
    | [e] => digL n (leafL e.k (digL n (valL e.v)))
    | _ :: _ :: _ => digL n (nodeL (rootK f n (partK l d 0) (d + 1)) (rootK f n (partK l d 1) (d + 1)))
theorem rootK_none (f : Nat) (n : Int) (d : Int) : rootK f n [] d = digL n emptyL := by cases f <;> rfl
theorem rootK_one (f : Nat) (n : Int) (e : Ent) (d : Int) : rootK f n [e] d = digL n (leafL e.k (digL n (valL e.v))) := by cases f <;> rfl
theorem rootK_two (f : Nat) (n : Int) (l : List Ent) (d : Int) (h : 2 ≤ l.length) : rootK (f + 1) n l d = digL n (nodeL (rootK f n (partK l d 0) (d + 1)) (rootK f n (partK l d 1) (d + 1))) := by
  match l, h with
  | _ :: _ :: _, _ => rfl
theorem partE_ent (l : List En) (d b : Int) : (partE l d b).map En.ent = partK (l.map En.ent) d b := by
  unfold partE partK
  rw [List.filter_map]
  rfl
theorem partE_len (l : List En) (d b : Int) : (partE l d b).length ≤ l.length := List.length_filter_le _ _
theorem partE_mem {l : List En} {d b : Int} {e : En} (h : e ∈ partE l d b) : e ∈ l := (List.mem_filter.1 h).1
/-- Beyond the last bit there is none. -/
theorem partE_last (l : List En) (d b : Int) (hd : 256 ≤ d) (hb : 0 ≤ b) : partE l d b = [] := by
  unfold partE
  rw [List.filter_eq_nil_iff]
  intro e _
  have : bitK e.k d = -1 := by unfold bitK Bt.bitI; rw [if_neg (by omega)]
  rw [this, decide_eq_false (by omega)]
  simp
/-- Enough levels are left. -/
def Deep (f : Nat) (d : Int) (l : Nat) : Prop := l ≤ 1 ∨ (0 ≤ d ∧ d ≤ 256 ∧ 256 < d + f)
theorem Deep.part {f : Nat} {d : Int} {l : List En} (h : Deep (f + 1) d l.length) (hl : 2 ≤ l.length) (b : Int) (hb : 0 ≤ b) : Deep f (d + 1) (partE l d b).length := by
  rcases h with h | ⟨h0, h1, h2⟩
  · omega
  · by_cases hd : d = 256
    · rw [partE_last l d b (by omega) hb]; exact .inl (Nat.zero_le _)
    · exact .inr ⟨by omega, by omega, by omega⟩
end Go.Proofs.YtaajnjddfcdeaaaDoor
