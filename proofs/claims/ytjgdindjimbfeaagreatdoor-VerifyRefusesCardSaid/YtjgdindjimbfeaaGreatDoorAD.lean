import Derived.Test.YtjgdindjimbfeaaGreatDoorAA
import Derived.Test.YtjgdindjimbfeaaGreatDoorM4
import Derived.Test.YtjgdindjimbfeaaGreatDoorHH
import Derived.Test.YtjgdindjimbfeaaGreatDoorMO
import Derived.Test.YtjgdindjimbfeaaGreatDoorM6
import Derived.Test.YtjgdindjimbfeaaGreatDoorMM
import Derived.Test.YtjgdindjimbfeaaGreatDoorMT
namespace Go.Proofs.YtjgdindjimbfeaaGreatDoor
set_option linter.unusedSimpArgs false
set_option linter.unusedVariables false
section
open Go.RowKit
end
section
open Go.RowKit
theorem ret_b15 {a b : Bool} (h : a = b) : Ending.returned (.bool a) = .returned (.bool b) := by rw [h]
theorem three_below (w : World) (o p q : Obj) : Below w.heap.size w (((w.alloc o).alloc p).alloc q) := ((Bt.two_below w o p).alloc (by simp; omega) q)
end
section
open Go.RowKit
def eqP (p q : Pf) : Bool := decide (p.kind = q.kind ∧ p.dep = q.dep ∧ p.lf = q.lf ∧ p.bm = q.bm ∧ p.sib = q.sib)
end
section
open Go.RowKit
def NewD (w' : World) (B : Nat) (A : Option Addr) (c : Nat) (ds : List (List UInt8)) : Prop := ds.length ≤ c ∧ (ds = [] ∨ OwnD w' B (.slice A ds.length c) ds)
theorem NewD.ds {w' : World} {B : Nat} {A : Option Addr} {c : Nat} {ds : List (List UInt8)} (h : NewD w' B A c ds) (hl : ∀ s ∈ ds, s.length = 32) : DS w' A ds := by
 rcases h.2 with rfl | h
 ·exact DS.nil _ _
 ·obtain ⟨A', c', e, h1, _⟩ := h.ds hl
  cases e
  exact h1
structure PfV (M : World → Int → Tv → Prop) : Prop where
 prove : ∀ (w : World) (b : Nat) (n : Int) (c : Nat) (l : List Ent) (T : Tv) (k : List UInt8), Hs w b n c → c ≤ 500000 → Vars w → M w n T → IsMap l T → k.length = 32 →
  Calls Tryz.prog 28 #[ptr b, T.val, .agg (bA k)] w fun e w' => ∃ A cp c', e = .returned (.agg (pfC (prK n l k (T.dep k 0)) (.slice A (prK n l k (T.dep k 0)).sib.length cp))) ∧ NewD w' w.heap.size A cp (prK n l k (T.dep k 0)).sib ∧ c' ≤ c + 1000 ∧ Hs w' b n c' ∧ Keep (fun i => i = b) w w'
 check : ∀ (w : World) (p : Pf) (A : Option Addr) (c : Nat), p.Ok → DS w A p.sib → p.sib.length ≤ c → p.sib.length ≤ 1000000 →
  Calls Tryz.prog 46 #[.agg (pfC p (.slice A p.sib.length c))] w fun e w' => e = .returned (.int .i64 (chkP p)) ∧ Below w.heap.size w w'
 supports : ∀ (w : World) (p : Pf) (A : Option Addr) (c : Nat) (k v : List UInt8) (q : Bool), p.Ok → k.length = 32 → v.length = 32 →
  Calls Tryz.prog 108 #[.agg (pfC p (.slice A p.sib.length c)), .agg (bA k), .agg (bA v), .bool q] w fun e w' => e = .returned (.bool (supP p k v q)) ∧ Below w.heap.size w w'
 expand : ∀ (w : World) (b : Nat) (n : Int) (m : Nat) (p : Pf) (A : Option Addr) (c : Nat), Hs w b n m → m ≤ 500000 → Vars w → p.Ok → DS w A p.sib → p.sib.length ≤ c → p.sib.length ≤ 1000000 → chkP p = 0 →
  Calls Tryz.prog 147 #[ptr b, .agg (pfC p (.slice A p.sib.length c))] w fun e w' => ∃ A' c' m', e = .returned (.tuple #[.slice A' (expL n p.bm p.sib p.dep.toNat).length c', .int .i64 0]) ∧ NewD w' w.heap.size A' c' (expL n p.bm p.sib p.dep.toNat) ∧ m' ≤ m + 1000 ∧ Hs w' b n m' ∧ Keep (fun i => i = b) w w'
 expandBad : ∀ (w : World) (b : Nat) (n : Int) (m : Nat) (p : Pf) (A : Option Addr) (c : Nat), Hs w b n m → m ≤ 500000 → Vars w → p.Ok → DS w A p.sib → p.sib.length ≤ c → p.sib.length ≤ 1000000 → chkP p ≠ 0 →
  Calls Tryz.prog 147 #[ptr b, .agg (pfC p (.slice A p.sib.length c))] w fun e w' => ∃ A' c' m', e = .returned (.tuple #[.slice A' 0 c', .int .i64 (chkP p)]) ∧ m' ≤ m + 1000 ∧ Hs w' b n m' ∧ Keep (fun i => i = b) w w'
theorem expL_mem {n : Int} {bm : List UInt8} {sib : List (List UInt8)} (hb : (Bt.setZ (keyF bm) 256).length = sib.length) (hs : ∀ s ∈ sib, s.length = 32) : ∀ {d : Nat}, d ≤ 256 → ∀ s ∈ expL n bm sib d, s.length = 32
 | 0, _, s, h => by simp [expL] at h
 | d + 1, hd, s, h => by
  unfold expL at h
  rcases List.mem_append.1 h with h | h
  ·exact expL_mem hb hs (by omega) s h
  ·rw [List.mem_singleton] at h
   subst h
   by_cases hbit : Bt.bit (keyF bm) d = 1
   ·rw [if_pos hbit]
    have := cntB_lt (show d < 256 by omega) hbit
    rw [List.getD_eq_getElem?_getD, List.getElem?_eq_getElem (by omega)]
    exact hs _ (List.getElem_mem _)
   ·rw [if_neg hbit]; exact dig_len _ _
end
section
open Go.RowKit
def k255 : List UInt8 := 255 :: List.replicate 31 0
def e0 : En := ⟨z26, none, [], 0⟩
theorem supP_no (p : Pf) (k v : List UInt8) : supP p k v false = supNo p k := by unfold supP; rw [if_neg (by simp)]
theorem supP_yes (p : Pf) (k v : List UInt8) : supP p k v true = supYes p k v := by unfold supP; rw [if_pos rfl]
structure Ex15 (p q : Pf) : Prop where
 pk : p.kind = 0
 pd : p.dep = 0
 ps : p.sib.length = 0
 po : p.Ok
 qk : q.kind = 1
 qd : q.dep = 1
 qs : q.sib.length = 1
 qo : q.Ok
 yes : supP q k128 z26 false = true
 no : supP q k255 z26 false = false
 chk : chkP q = 0
 ex : (expL 256 q.bm q.sib q.dep.toNat).length = 1
 eq : eqP q q = true
 ne : eqP p q = false
end
end Go.Proofs.YtjgdindjimbfeaaGreatDoor
