/- Several texts in one: Na Nb Nc Ne Nf. -/
import Derived.Test.YtbkokcfmndiedaaMM
import Derived.Test.YtbkokcfmndiedaaMD
/- Hash of layer 7's law; the walk of NodeDigests over contracts. -/
namespace Go.Proofs.Ytbkokcfmndiedaa
open Go.RowKit
/-- The law's answer. -/
def Aye (W : World) (e : Ending) (w' : World) : Prop := e = .returned (.bool true) ∧ Below W.heap.size W w'
/-- A hasher that was made since: what was there is as it was. -/
theorem keep_new {W w w' : World} {b : Nat} (hB : Below W.heap.size W w) (hb : W.heap.size ≤ b) (k : Keep (fun i => i = b) w w') : Below W.heap.size W w' := hB.trans (k.below hB.size fun i hi => by have e : i = b := hi; omega)
theorem few_len {l : List Ent} (h : fewK l = true) : l.length ≤ 12 := of_decide_eq_true (Bool.and_eq_true_iff.1 h).1
theorem few_val {l : List Ent} (h : fewK l = true) : ∀ e ∈ l, e.v.length ≤ 200 := fun e he => of_decide_eq_true (List.all_eq_true.1 (Bool.and_eq_true_iff.1 h).2 e he)
end Go.Proofs.Ytbkokcfmndiedaa

/- The walk of NodeCaches over contracts. -/
namespace Go.Proofs.Ytbkokcfmndiedaa
open Go.RowKit
end Go.Proofs.Ytbkokcfmndiedaa

/- The walk of NodeKeeps over contracts. -/
namespace Go.Proofs.Ytbkokcfmndiedaa
open Go.RowKit

end Go.Proofs.Ytbkokcfmndiedaa

/- What the program's subtrees keep, as one contract over subtrees with addresses; the walk of NodeNil. -/
namespace Go.Proofs.Ytbkokcfmndiedaa
open Go.RowKit

/-- Join, with the new node's address. -/
def joinV (v : Value) : Tv → Tv → Tv
  | .nil, .nil => .nil
  | .nil, .leaf a e => .leaf a e
  | .leaf a e, .nil => .leaf a e
  | s, t => .inner v s t
theorem joinV_tr (v : Value) (S T : Tv) : (joinV v S T).tr = joinT S.tr T.tr := by
  cases S <;> cases T <;> rfl
/-- A leaf's entry (zeros for other subtrees), its key and the digest of its value. -/
def entT : Tr → Ent
  | .leaf e => e
  | _ => ⟨z26, []⟩
def leafV (n : Int) : Tr → List UInt8
  | .leaf e => e.k ++ digL n (valL e.v)
  | _ => z64
/-- Bytes that the call made. -/
def NewB (w' : World) (B : Nat) (A : Option Addr) (c : Nat) (l : List UInt8) : Prop := l.length ≤ c ∧ (l = [] ∨ OwnB w' B (.slice A l.length c) l)
theorem NewB.ba {w' : World} {B : Nat} {A : Option Addr} {c : Nat} {l : List UInt8} (h : NewB w' B A c l) : BA w' A l := by
  rcases h.2 with rfl | h
  · intro j x hj; simp at hj
  · obtain ⟨A', c', he, _, hb⟩ := h.any
    cases he
    exact hb
/-- .. as the contracts over subtrees without addresses. -/
def NM (M : World → Int → Tv → Prop) (w : World) (n : Int) (v : Value) (t : Tr) : Prop := ∃ T : Tv, T.val = v ∧ T.tr = t ∧ M w n T
/-! ### Entries in variables; keys compared -/
@[go_sem ↓] theorem execOp_eqKey (ρ : Operand → Value) (dst : Option Tmp) (x y : Operand) (ty type : TypeId) (pos : String) (after : Array Edge) (guard : Option (Nat × Bool)) (w : World) :
    Sem.run Try.prog (execOp ρ { dst, op := .binOp .eql 23 x y ty, type, pos, after, guard }) w = eqA .eql 23 x y w (ρ x) (ρ y) := rfl
theorem eqKey (l m : List UInt8) (hl : l.length = 32) (hm : m.length = 32) (x y : Operand) (w : World) :
    eqA .eql 23 x y w (.agg (bA l)) (.agg (bA m)) = .ok (.value (.bool (decide (l = m)))) w := (eqA_of guardKey (eq_arr Try.underlying23 9998 l m hl hm) x y w).1
theorem bldKey_none (w : World) : bldA 23 w #[] = .ok (.value (.agg (bA z26))) w := by kernel_rfl
end Go.Proofs.Ytbkokcfmndiedaa

/- What a law's walk carries (a hasher, subtrees); alive of layer 7 over contracts. -/
namespace Go.Proofs.Ytbkokcfmndiedaa
open Go.RowKit

def k128 : List UInt8 := 128 :: List.replicate 31 0
theorem bldKey_128 (w : World) : bldA 23 w #[(0, .int .u8 128)] = .ok (.value (.agg (bA k128))) w := by kernel_rfl
end Go.Proofs.Ytbkokcfmndiedaa
