/- Laws for the walks over words of 32 bits: a word stays folded ('u x'). -/
import Derived.Test.YtffgeoeoodogiaaDoorRows
import Derived.WalkKit
import Derived.Lib.Hide
import Derived.WalkLawsBesides
import Derived.WalkSpells
import Derived.BigQuiet
import Derived.Deep.LoopGhost
import Derived.Deep.QuietTactic
import Derived.Below
import Derived.Outline
import Derived.Laws.AppendOwn
import Derived.Laws.BitsAllLaws
import Derived.Test.YtffgeoeoodogiaaDoorGn
import Derived.Test.YtffgeoeoodogiaaDoorPure
namespace Go.Proofs.YtffgeoeoodogiaaDoor
open Go.RowKit

/-- A word. -/
def u (x : UInt32) : Value := .int .u32 (x.toNat : Int)

theorem u_eq {x : UInt32} {m : Int} (h : m = x.toNat) : Value.int .u32 m = u x := by rw [h]; rfl
@[go_sem] theorem add_u (x y : UInt32) (w : World) : (binOp .add 61 (u x) (u y)).run Tryd.prog w = .ok (u (x + y)) w := by
  have e : (binOp .add 61 (u x) (u y)).run Tryd.prog w = .ok (.int .u32 (IntKind.u32.wrap ((x.toNat : Int) + y.toNat))) w := by
    unfold u; simp [binOp, go_sem]
  rw [e, u_eq (x := x + y)]
  rw [wrap_u32, UInt32.toNat_add]
  omega
theorem lt32 (x : UInt32) : x.toNat < 4294967296 := x.toNat_lt
@[go_sem] theorem xor_u (x y : UInt32) (w : World) : (binOp .xor 61 (u x) (u y)).run Tryd.prog w = .ok (u (x ^^^ y)) w := by
  have e : (binOp .xor 61 (u x) (u y)).run Tryd.prog w = .ok (.int .u32 (bits .xor .u32 (x.toNat : Int) y.toNat)) w := by
    unfold u; simp [binOp, go_sem]
  rw [e, u_eq (x := x ^^^ y)]
  rw [u32_xor_nat _ _ (lt32 x) (lt32 y), UInt32.toNat_xor]
@[go_sem] theorem and_u (x y : UInt32) (w : World) : (binOp .and 61 (u x) (u y)).run Tryd.prog w = .ok (u (x &&& y)) w := by
  have e : (binOp .and 61 (u x) (u y)).run Tryd.prog w = .ok (.int .u32 (bits .and .u32 (x.toNat : Int) y.toNat)) w := by
    unfold u; simp [binOp, go_sem]
  rw [e, u_eq (x := x &&& y)]
  rw [u32_and_nat _ _ (lt32 x) (lt32 y), UInt32.toNat_and]
@[go_sem] theorem or_u (x y : UInt32) (w : World) : (binOp .or 61 (u x) (u y)).run Tryd.prog w = .ok (u (x ||| y)) w := by
  have e : (binOp .or 61 (u x) (u y)).run Tryd.prog w = .ok (.int .u32 (bits .or .u32 (x.toNat : Int) y.toNat)) w := by
    unfold u; simp [binOp, go_sem]
  rw [e, u_eq (x := x ||| y)]
  rw [u32_or_nat _ _ (lt32 x) (lt32 y), UInt32.toNat_or]
@[go_sem] theorem not_u (x : UInt32) (w : World) : (Op.unary .xor (u x)).run Tryd.prog w = .ok (u (~~~x)) w := by
  have e : (Op.unary .xor (u x)).run Tryd.prog w = .ok (.int .u32 (bits .xor .u32 ((4294967295 : Nat) : Int) (x.toNat : Int))) w := by
    unfold u; rfl
  rw [e, u_eq (x := ~~~x)]
  rw [u32_xor_nat _ _ (by decide) (lt32 x), not_nat _ (lt32 x)]
  congr 1
  simp
theorem shr_u (x : UInt32) (n : Nat) (h : n < 32) (w : World) : (binOp .shr 61 (u x) (.int .u64 (n : Int))).run Tryd.prog w = .ok (u (x >>> UInt32.ofNat n)) w := by
  unfold u; simp [binOp, go_sem]
  rw [Nat.mod_eq_of_lt h, Int.shiftRight_eq_div_pow]
  simp
theorem shl_u (x : UInt32) (n : Nat) (h : n < 32) (w : World) : (binOp .shl 61 (u x) (.int .u64 (n : Int))).run Tryd.prog w = .ok (u (x <<< UInt32.ofNat n)) w := by
  unfold u; simp [binOp, go_sem]
  rw [Nat.mod_eq_of_lt h, wrap_u32, Int.shiftLeft_eq]
@[go_sem high] theorem conv_u (x : UInt8) (w : World) : (convert 5 61 (.int .u8 (x.toNat : Int))).run Tryd.prog w = .ok (u x.toUInt32) w := by
  unfold u; simp [go_sem]
  have := x.toNat_lt
  rw [wrap_u32]; omega
@[go_sem high] theorem conv_b (x : UInt32) (w : World) : (convert 61 5 (u x)).run Tryd.prog w = .ok (.int .u8 ((UInt8.ofNat x.toNat).toNat : Int)) w := by
  unfold u; simp [go_sem]
  rw [wrap_u8]

/-! ### The reference's turn -/
theorem turn_c (x : UInt32) (n : Nat) (N : Int) (hN : N = n) (h : n < 32) (h0 : 0 < n) (w : World) : Calls Tryd.prog 33 #[u x, .int .u64 N] w fun e w' => e = .returned (u (rotr x n)) ∧ w' = w := by
  subst hN
  have a1 := fun w => shr_u x n h w
  have a2 : ∀ w, (binOp .shl 61 (u x) (.int .u64 (32 - (n : Int)))).run Tryd.prog w = .ok (u (x <<< UInt32.ofNat (32 - n))) w := fun w => by
    rw [show (32 - (n : Int)) = ((32 - n : Nat) : Int) by omega]; exact shl_u x (32 - n) (by omega) w
  go_enter Tryd.func33, Tryd.ntmps33
  go_wp2
  go_ret
  exact ⟨rfl, rfl⟩

def rotrI (x : UInt32) (n : Int) : UInt32 := rotr x n.toNat
theorem turn_any (x : UInt32) (n : Int) (h : 0 < n ∧ n < 32) (w : World) : Calls Tryd.prog 33 #[u x, .int .u64 n] w fun e w' => e = .returned (u (rotrI x n)) ∧ w' = w :=
  turn_c x n.toNat n (by omega) (by omega) (by omega) w

/-! ### Rows of words -/
theorem info38 : (Tryd.prog.info? 61).map (fun i => (i.zero, i.size, i.bytes)) = some (some (.int .u32 0), 1, 4) := by kernel_rfl
theorem u_one (x : UInt32) : (u x).oneCell' = true := rfl
def OwnW (w : World) (B : Nat) (v : Value) (l : List UInt32) : Prop := w.ownsRow B 61 1 v l.length (l.map u)
theorem OwnW.nil (w : World) (B : Nat) : OwnW w B (.slice none 0 0) [] := ⟨rfl, .inl ⟨rfl, rfl⟩⟩
theorem OwnW.below {w w' : World} {B : Nat} {v : Value} {l : List UInt32} (h : OwnW w B v l) (hb : Below w.heap.size w w') : OwnW w' B v l := by
  obtain ⟨h0, h | ⟨g, cap, cur, rfl, hg, hh, hr⟩⟩ := h
  · exact ⟨h0, .inl h⟩
  · exact ⟨h0, .inr ⟨g, cap, cur, rfl, hg, by rw [hb.block g (lt_of_heap hh)]; exact hh, hr⟩⟩
theorem OwnW.drew {w : World} {B : Nat} {v : Value} {l : List UInt32} (h : OwnW w B v l) : OwnW w.drew B v l := h
theorem OwnW.ge {w : World} {B : Nat} {v : Value} {l : List UInt32} (h : OwnW w B v l) : ∀ k, v.ownBlock = some k → B ≤ k := fun k hk => by
  obtain ⟨_, h | ⟨g, cap, cur, rfl, hg, _⟩⟩ := h
  · obtain ⟨rfl, _⟩ := h; simp [Value.ownBlock] at hk
  · simp [Value.ownBlock] at hk; omega
/-- The words at A. -/
def WA (w : World) (A : Option Addr) (l : List UInt32) : Prop := ∀ j x, l[j]? = some x → ∃ g, A = some ⟨g, 0, none⟩ ∧ w.cell? ⟨g, j, none⟩ = some (u x)
theorem WA.below {w w' : World} {A : Option Addr} {l : List UInt32} (h : WA w A l) (hb : Below w.heap.size w w') : WA w' A l := fun j x hj => by
  obtain ⟨g, rfl, h1⟩ := h j x hj
  exact ⟨g, rfl, by rw [hb.cell (lt_of_cell h1)]; exact h1⟩
theorem OwnW.row {w : World} {B : Nat} {v : Value} {l : List UInt32} (h : OwnW w B v l) : ∃ A c, v = .slice A l.length c ∧ l.length ≤ c ∧ WA w A l := by
  obtain ⟨h0, ⟨rfl, h⟩ | ⟨g, cap, cur, rfl, hg, hh, hn, hc, hs, ht⟩⟩ := h
  · refine ⟨none, 0, by rw [h], by omega, fun j f hj => ?_⟩
    have : l = [] := List.length_eq_zero_iff.1 h
    subst this; simp at hj
  · refine ⟨_, _, rfl, hn, fun j f hj => ⟨g, rfl, ?_⟩⟩
    rw [cell_of_cells hh, ← Array.getElem?_toList]
    have hlt : j < l.length := (List.getElem?_eq_some_iff.1 hj).1
    have : (cur.toList.take (l.length * 1))[j]? = some (u f) := by rw [ht]; simp [hj]
    rw [List.getElem?_take_of_lt (by omega)] at this
    exact this

noncomputable def bsU (w : World) (n : Nat) (parts : Array (Nat × Value)) : Result Next := Sem.run Tryd.prog (do pure (.value (← Instr.buildSlice 63 n parts))) w
@[go_sem ↓] theorem execOp_build_u (ρ : Operand → Value) (dst : Option Tmp) (n : Nat) (parts : Array (Nat × Operand)) (type : TypeId) (pos : String) (after : Array Edge) (guard : Option (Nat × Bool)) (w : World) :
    Sem.run Tryd.prog (execOp ρ { dst, op := .buildSlice 63 n parts, type, pos, after, guard }) w = bsU w n (parts.map fun x => (x.1, ρ x.2)) := rfl
@[go_sem] theorem bsU_one (x : UInt32) (w : World) : bsU w 1 #[(0, u x)] = .ok (.value (.slice (some ⟨w.heap.size, 0, none⟩) 1 1)) (w.alloc (.cells #[u x] 61)) := by kernel_rfl
end Go.Proofs.YtffgeoeoodogiaaDoor
