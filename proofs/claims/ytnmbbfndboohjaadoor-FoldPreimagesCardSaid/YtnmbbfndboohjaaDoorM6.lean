/- Several texts in one: Na Nb Nc Ne Nf. -/
import Derived.Test.YtnmbbfndboohjaaDoorMM
import Derived.Test.YtnmbbfndboohjaaDoorMD
/- Hash of layer 7's law; the walk of NodeDigests over contracts. -/
namespace Go.Proofs.YtnmbbfndboohjaaDoor
open Go.RowKit

set_option maxHeartbeats 1000000 in
set_option maxRecDepth 100000 in
theorem hash_in (n : Int) (w : World) (h0 : 0 ≤ n) (h1 : n ≤ 256) : Calls Tryd.prog 10 #[.int .i64 n] w fun e w' => ∃ b, e = .returned (ptr b) ∧ w.heap.size ≤ b ∧ Hs w' b n 0 ∧ Below w.heap.size w w' := by
  have HC := Lib.hid (new_c n w h0 h1)
  clear h0 h1
  go_enter Tryd.func10, Tryd.ntmps10
  go_wp2_with fail
  refine HC.out.mono ?_
  rintro _ w1 ⟨b, rfl, hb, hH, hB⟩
  have HP : Hid (w.heap.size ≤ b ∧ Hs w1 b n 0 ∧ Below w.heap.size w w1) := ⟨hb, hH, hB⟩
  clear hb hH hB
  go_wp2_with fail
  go_ret
  exact ⟨b, rfl, HP.out⟩
set_option maxHeartbeats 1000000 in
set_option maxRecDepth 100000 in
theorem hash_out (n : Int) (w : World) (h : n < 0 ∨ 256 < n) : Calls Tryd.prog 10 #[.int .i64 n] w fun e w' => e = .returned (.pointer none) ∧ Below w.heap.size w w' := by
  have HC := Lib.hid (out_c n w h)
  clear h
  go_enter Tryd.func10, Tryd.ntmps10
  go_wp2_with fail
  refine HC.out.mono ?_
  rintro _ w1 ⟨rfl, hB⟩
  have HB := Lib.hid hB
  clear hB
  go_wp2_with fail
  go_ret
  exact ⟨rfl, HB.out⟩
/-- The law's answer. -/
def Aye (W : World) (e : Ending) (w' : World) : Prop := e = .returned (.bool true) ∧ Below W.heap.size W w'
/-- What Digest keeps. -/
def DigestC (N : World → Int → Value → Tr → Prop) : Prop := ∀ (w : World) (b : Nat) (n : Int) (c : Nat) (v : Value) (t : Tr), Hs w b n c → c ≤ 1000000 → Vars w → N w n v t →
  Calls Tryd.prog 50 #[ptr b, v] w fun x w' => ∃ c', x = .returned (.agg (bA (digT n t))) ∧ c' ≤ c + 1 ∧ (t ≠ .nil → c' = c) ∧ Hs w' b n c' ∧ Keep (fun i => i = b) w w'
/-- A hasher that was made since: what was there is as it was. -/
theorem keep_new {W w w' : World} {b : Nat} (hB : Below W.heap.size W w) (hb : W.heap.size ≤ b) (k : Keep (fun i => i = b) w w') : Below W.heap.size W w' := hB.trans (k.below hB.size fun i hi => by have e : i = b := hi; omega)
theorem few_len {l : List Ent} (h : fewK l = true) : l.length ≤ 12 := of_decide_eq_true (Bool.and_eq_true_iff.1 h).1
theorem few_val {l : List Ent} (h : fewK l = true) : ∀ e ∈ l, e.v.length ≤ 200 := fun e he => of_decide_eq_true (List.all_eq_true.1 (Bool.and_eq_true_iff.1 h).2 e he)
end Go.Proofs.YtnmbbfndboohjaaDoor

/- The walk of NodeCaches over contracts. -/
namespace Go.Proofs.YtnmbbfndboohjaaDoor
open Go.RowKit
def CallsC : Prop := ∀ (b : Nat) (n : Int) (c : Nat) (w : World), Hs w b n c → Calls Tryd.prog 24 #[ptr b] w fun e w' => e = .returned (.int .i64 (c : Int)) ∧ w = w'
end Go.Proofs.YtnmbbfndboohjaaDoor

/- The walk of NodeKeeps over contracts. -/
namespace Go.Proofs.YtnmbbfndboohjaaDoor
open Go.RowKit

end Go.Proofs.YtnmbbfndboohjaaDoor

/- What the program's subtrees keep, as one contract over subtrees with addresses; the walk of NodeNil. -/
namespace Go.Proofs.YtnmbbfndboohjaaDoor
open Go.RowKit

/-- Join, with the new node's address. -/
def joinV (v : Value) : Tv → Tv → Tv
  | .nil, .nil => .nil
  | .nil, .leaf a e => .leaf a e
  | .leaf a e, .nil => .leaf a e
  | s, t => .inner v s t
theorem joinV_tr (v : Value) (S T : Tv) : (joinV v S T).tr = joinT S.tr T.tr := by
  cases S <;> cases T <;> rfl
/-- A leaf's entry (zeros for other subtrees), its key and the digest of its value. -/
def entT : Tr → Ent
  | .leaf e => e
  | _ => ⟨z26, []⟩
def leafV (n : Int) : Tr → List UInt8
  | .leaf e => e.k ++ digL n (valL e.v)
  | _ => z64
/-- Bytes that the call made. -/
def NewB (w' : World) (B : Nat) (A : Option Addr) (c : Nat) (l : List UInt8) : Prop := l.length ≤ c ∧ (l = [] ∨ OwnB w' B (.slice A l.length c) l)
theorem NewB.ba {w' : World} {B : Nat} {A : Option Addr} {c : Nat} {l : List UInt8} (h : NewB w' B A c l) : BA w' A l := by
  rcases h.2 with rfl | h
  · intro j x hj; simp at hj
  · obtain ⟨A', c', he, _, hb⟩ := h.any
    cases he
    exact hb
/-- .. as the contracts over subtrees without addresses. -/
def NM (M : World → Int → Tv → Prop) (w : World) (n : Int) (v : Value) (t : Tr) : Prop := ∃ T : Tv, T.val = v ∧ T.tr = t ∧ M w n T
/-! ### Entries in variables; keys compared -/
@[go_sem ↓] theorem execOp_eqKey (ρ : Operand → Value) (dst : Option Tmp) (x y : Operand) (ty type : TypeId) (pos : String) (after : Array Edge) (guard : Option (Nat × Bool)) (w : World) :
    Sem.run Tryd.prog (execOp ρ { dst, op := .binOp .eql 23 x y ty, type, pos, after, guard }) w = eqA .eql 23 x y w (ρ x) (ρ y) := rfl
theorem eqKey (l m : List UInt8) (hl : l.length = 32) (hm : m.length = 32) (x y : Operand) (w : World) :
    eqA .eql 23 x y w (.agg (bA l)) (.agg (bA m)) = .ok (.value (.bool (decide (l = m)))) w := (eqA_of guardKey (eq_arr Tryd.underlying23 9998 l m hl hm) x y w).1
theorem bldKey_none (w : World) : bldA 23 w #[] = .ok (.value (.agg (bA z26))) w := by kernel_rfl
end Go.Proofs.YtnmbbfndboohjaaDoor

/- What a law's walk carries (a hasher, subtrees); alive of layer 7 over contracts. -/
namespace Go.Proofs.YtnmbbfndboohjaaDoor
open Go.RowKit

/-- The state of a law's walk: nothing that lay has turned, the hasher, the variables, some subtrees. -/
structure St (M : World → Int → Tv → Prop) (W : World) (b : Nat) (n : Int) (c : Nat) (Ts : List Tv) (w : World) : Prop where
  bel : Below W.heap.size W w
  new : W.heap.size ≤ b
  hs : Hs w b n c
  vars : Vars w
  ms : ∀ T ∈ Ts, M w n T
theorem St.add {M : World → Int → Tv → Prop} {W w : World} {b : Nat} {n : Int} {c : Nat} {Ts : List Tv} {T : Tv} (h : St M W b n c Ts w) (hT : M w n T) : St M W b n c (T :: Ts) w :=
  ⟨h.bel, h.new, h.hs, h.vars, fun S hS => by
    rcases List.mem_cons.1 hS with rfl | hS
    · exact hT
    · exact h.ms S hS⟩
def k128 : List UInt8 := 128 :: List.replicate 31 0
theorem bldKey_128 (w : World) : bldA 23 w #[(0, .int .u8 128)] = .ok (.value (.agg (bA k128))) w := by kernel_rfl
end Go.Proofs.YtnmbbfndboohjaaDoor
