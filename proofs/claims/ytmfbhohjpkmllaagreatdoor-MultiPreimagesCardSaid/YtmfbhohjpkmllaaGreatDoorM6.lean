import Derived.Test.YtmfbhohjpkmllaaGreatDoorMM
import Derived.Test.YtmfbhohjpkmllaaGreatDoorMD
import Derived.Test.YtmfbhohjpkmllaaGreatDoorTG
namespace Go.Proofs.YtmfbhohjpkmllaaGreatDoor
set_option linter.unusedSimpArgs false
set_option linter.unusedVariables false
set_option maxHeartbeats 1000000
set_option maxRecDepth 100000
section
open Go.RowKit
theorem hash_in (n : Int) (w : World) (h0 : 0 ≤ n) (h1 : n ≤ 256) : Calls Tryz.prog 10 #[.int .i64 n] w fun e w' => ∃ b, e = .returned (ptr b) ∧ w.heap.size ≤ b ∧ Hs w' b n 0 ∧ Below w.heap.size w w' := by
 have HC := Lib.hid (new_c n w h0 h1)
 clear h0 h1
 go_enter Tryz.func10, Tryz.ntmps10
 go_wp2_with fail
 refine HC.out.mono ?_
 rintro _ w1 ⟨b, rfl, hb, hH, hB⟩
 have HP : Hid (w.heap.size ≤ b ∧ Hs w1 b n 0 ∧ Below w.heap.size w w1) := ⟨hb, hH, hB⟩
 clear hb hH hB
 go_wp2_with fail
 go_ret
 exact ⟨b, rfl, HP.out⟩
theorem hash_out (n : Int) (w : World) (h : n < 0 ∨ 256 < n) : Calls Tryz.prog 10 #[.int .i64 n] w fun e w' => e = .returned (.pointer none) ∧ Below w.heap.size w w' := by
 have HC := Lib.hid (out_c n w h)
 clear h
 go_enter Tryz.func10, Tryz.ntmps10
 go_wp2_with fail
 refine HC.out.mono ?_
 rintro _ w1 ⟨rfl, hB⟩
 have HB := Lib.hid hB
 clear hB
 go_wp2_with fail
 go_ret
 exact ⟨rfl, HB.out⟩
def Aye (W : World) (e : Ending) (w' : World) : Prop := e = .returned (.bool true) ∧ Below W.heap.size W w'
theorem keep_new {W w w' : World} {b : Nat} (hB : Below W.heap.size W w) (hb : W.heap.size ≤ b) (k : Keep (fun i => i = b) w w') : Below W.heap.size W w' := hB.trans (k.below hB.size fun i hi => by have e : i = b := hi; omega)
theorem few_len {l : List Ent} (h : fewK l = true) : l.length ≤ 12 := of_decide_eq_true (Bool.and_eq_true_iff.1 h).1
theorem few_val {l : List Ent} (h : fewK l = true) : ∀ e ∈ l, e.v.length ≤ 200 := fun e he => of_decide_eq_true (List.all_eq_true.1 (Bool.and_eq_true_iff.1 h).2 e he)
end
section
open Go.RowKit
end
section
open Go.RowKit
end
section
open Go.RowKit
def joinV (v : Value) : Tv → Tv → Tv
 | .nil, .nil => .nil
 | .nil, .leaf a e => .leaf a e
 | .leaf a e, .nil => .leaf a e
 | s, t => .inner v s t
theorem joinV_tr (v : Value) (S T : Tv) : (joinV v S T).tr = joinT S.tr T.tr := by
 cases S <;> cases T <;> rfl
def entT : Tr → Ent
 | .leaf e => e
 | _ => ⟨z26, []⟩
def leafV (n : Int) : Tr → List UInt8
 | .leaf e => e.k ++ digL n (valL e.v)
 | _ => z64
def NewB (w' : World) (B : Nat) (A : Option Addr) (c : Nat) (l : List UInt8) : Prop := l.length ≤ c ∧ (l = [] ∨ OwnB w' B (.slice A l.length c) l)
theorem NewB.ba {w' : World} {B : Nat} {A : Option Addr} {c : Nat} {l : List UInt8} (h : NewB w' B A c l) : BA w' A l := by
 rcases h.2 with rfl | h
 ·intro j x hj; simp at hj
 ·obtain ⟨A', c', he, _, hb⟩ := h.any
  cases he
  exact hb
structure NdV (M : World → Int → Tv → Prop) : Prop where
 nil : ∀ w n, M w n .nil
 below : ∀ {w w' : World} {n : Int} {T : Tv}, M w n T → Below w.heap.size w w' → M w' n T
 hs : ∀ {w w' : World} {n : Int} {T : Tv} {b : Nat} {k : Int} {c : Nat}, M w n T → Hs w b k c → Keep (fun i => i = b) w w' → M w' n T
 addr : ∀ {w : World} {n : Int} {T : Tv}, M w n T → T = .nil ∨ ∃ a, T.val = .pointer (some a)
 kids : ∀ {w : World} {n : Int} {v : Value} {a b : Tv}, M w n (.inner v a b) → M w n a ∧ M w n b
 key : ∀ {w : World} {n : Int} {v : Value} {e : Ent}, M w n (.leaf v e) → e.k.length = 32 ∧ e.v.length ≤ 1000
 leaf : ∀ (w : World) (b : Nat) (n : Int) (c : Nat) (e : En), Hs w b n c → c ≤ 1000000 → Vars w → EnOk w e → e.v.length ≤ 1000 →
  Calls Tryz.prog 59 #[ptr b, .agg (enC e).toArray] w fun x w' => ∃ v c', x = .returned v ∧ M w' n (.leaf v e.ent) ∧ c' ≤ c + 2 ∧ Hs w' b n c' ∧ Keep (fun i => i = b) w w' ∧
   ∀ w2, Keep (fun i => i < w.heap.size) w' w2 → M w2 n (.leaf v e.ent)
 join : ∀ (w : World) (b : Nat) (n : Int) (c : Nat) (S T : Tv), Hs w b n c → c ≤ 1000000 → Vars w → M w n S → M w n T → lenT S.tr + lenT T.tr ≤ 1000000000 →
  Calls Tryz.prog 60 #[ptr b, S.val, T.val] w fun x w' => ∃ v c', x = .returned (joinV v S T).val ∧ M w' n (joinV v S T) ∧ c' ≤ c + 3 ∧ Hs w' b n c' ∧ Keep (fun i => i = b) w w' ∧
   ∀ w2, Keep (fun i => i < w.heap.size) w' w2 → M w2 n S → M w2 n T → M w2 n (joinV v S T)
 digest : ∀ (w : World) (b : Nat) (n : Int) (c : Nat) (T : Tv), Hs w b n c → c ≤ 1000000 → Vars w → M w n T →
  Calls Tryz.prog 62 #[ptr b, T.val] w fun x w' => ∃ c', x = .returned (.agg (bA (digT n T.tr))) ∧ c' ≤ c + 1 ∧ (T.tr ≠ .nil → c' = c) ∧ Hs w' b n c' ∧ Keep (fun i => i = b) w w'
 kind : ∀ (w : World) (n : Int) (T : Tv), M w n T → Calls Tryz.prog 31 #[T.val] w fun e w' => e = .returned (.int .i64 (kindT T.tr)) ∧ Below w.heap.size w w'
 len : ∀ (w : World) (n : Int) (T : Tv), M w n T → lenT T.tr ≤ 1000000000 → Calls Tryz.prog 87 #[T.val] w fun e w' => e = .returned (.int .i64 (lenT T.tr : Int)) ∧ Below w.heap.size w w'
 left : ∀ (w : World) (n : Int) (T : Tv), M w n T → Calls Tryz.prog 64 #[T.val] w fun e w' => e = .returned T.left.val ∧ Below w.heap.size w w'
 right : ∀ (w : World) (n : Int) (T : Tv), M w n T → Calls Tryz.prog 65 #[T.val] w fun e w' => e = .returned T.right.val ∧ Below w.heap.size w w'
 leafOf : ∀ (w : World) (n : Int) (T : Tv), M w n T → Calls Tryz.prog 32 #[T.val] w fun e w' => e = .returned (.agg (bA (leafV n T.tr))) ∧ Below w.heap.size w w'
def NM (M : World → Int → Tv → Prop) (w : World) (n : Int) (v : Value) (t : Tr) : Prop := ∃ T : Tv, T.val = v ∧ T.tr = t ∧ M w n T
theorem NdV.c {M : World → Int → Tv → Prop} (h : NdV M) : NdC (NM M) where
 nil := fun w n => ⟨.nil, rfl, rfl, h.nil w n⟩
 keep := fun ⟨T, h1, h2, h3⟩ hb hk => ⟨T, h1, h2, h.hs h3 hb hk⟩
 leaf := fun w b n c e hh hc hv he hl => (h.leaf w b n c e hh hc hv he hl).mono fun _ _ ⟨v, c', h1, h2, h3, h4, h5, _⟩ => ⟨v, c', h1, ⟨_, rfl, rfl, h2⟩, h3, h4, h5⟩
 join := fun w b n c p q s t hh hc hv ⟨S, hS1, hS2, hS⟩ ⟨T, hT1, hT2, hT⟩ hl => by
  subst hS1 hS2 hT1 hT2
  exact (h.join w b n c S T hh hc hv hS hT hl).mono fun _ _ ⟨v, c', h1, h2, h3, h4, h5, _⟩ => ⟨_, c', h1, ⟨_, rfl, joinV_tr v S T, h2⟩, h3, h4, h5⟩
theorem zeroEntry : ∀ w, (zeroValue 80).run Tryz.prog w = .ok (.agg (enC ⟨z26, none, [], 0⟩).toArray) w := fun _ => by kernel_rfl
attribute [go_sem ↓] zeroEntry
@[go_sem ↓] theorem execOp_storeEntry (ρ : Operand → Value) (dst : Option Tmp) (x y : Operand) (type : TypeId) (pos : String) (after : Array Edge) (guard : Option (Nat × Bool)) (w : World) :
  Sem.run Tryz.prog (execOp ρ { dst, op := .store 80 x y, type, pos, after, guard }) w = stA 80 w (ρ x) (ρ y) := rfl
theorem stE_new {w : World} {e z : En} (he : e.k.length = 32) (hz : z.k.length = 32) :
  stA 80 (w.alloc (.cells (enC z).toArray 80)) (.pointer (some ⟨w.heap.size, 0, none⟩)) (.agg (enC e).toArray) = .ok .skip (w.alloc (.cells (enC e).toArray 80)) :=
 stA_new w _ _ (by rw [List.size_toArray, enC_len he]; exact infoEntry) (by rw [List.size_toArray, List.size_toArray, enC_len he, enC_len hz]) (by rw [List.all_toArray, List.all_eq_true]; exact enC_one e)
@[go_sem ↓] theorem execOp_eqKey (ρ : Operand → Value) (dst : Option Tmp) (x y : Operand) (ty type : TypeId) (pos : String) (after : Array Edge) (guard : Option (Nat × Bool)) (w : World) :
  Sem.run Tryz.prog (execOp ρ { dst, op := .binOp .eql 39 x y ty, type, pos, after, guard }) w = eqA .eql 39 x y w (ρ x) (ρ y) := rfl
end
section
open Go.RowKit
structure St (M : World → Int → Tv → Prop) (W : World) (b : Nat) (n : Int) (c : Nat) (Ts : List Tv) (w : World) : Prop where
 bel : Below W.heap.size W w
 new : W.heap.size ≤ b
 hs : Hs w b n c
 vars : Vars w
 ms : ∀ T ∈ Ts, M w n T
def k128 : List UInt8 := 128 :: List.replicate 31 0
end
section
open Go.RowKit
end
end Go.Proofs.YtmfbhohjpkmllaaGreatDoor
