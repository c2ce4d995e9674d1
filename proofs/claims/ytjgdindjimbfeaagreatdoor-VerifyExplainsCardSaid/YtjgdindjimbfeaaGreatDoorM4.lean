import Derived.Test.YtjgdindjimbfeaaGreatDoorEt
import Derived.Test.YtjgdindjimbfeaaGreatDoorLM
import Derived.Test.YtjgdindjimbfeaaGreatDoorM3
namespace Go.Proofs.YtjgdindjimbfeaaGreatDoor
set_option linter.unusedSimpArgs false
set_option linter.unusedVariables false
section
open Go.RowKit
structure En where
 k : List UInt8
 A : Option Addr
 v : List UInt8
 c : Nat
def En.ent (e : En) : Ent := ⟨e.k, e.v⟩
instance : Inhabited En := ⟨⟨[], none, [], 0⟩⟩
def enC (e : En) : List Value := e.k.map bv ++ [.slice e.A e.v.length e.c]
structure EnOk (w : World) (e : En) : Prop where
 key : e.k.length = 32
 cap : e.v.length ≤ e.c
 val : BA w e.A e.v
theorem EnOk.below {w w' : World} {e : En} (h : EnOk w e) (hb : Below w.heap.size w w') : EnOk w' e := ⟨h.key, h.cap, h.val.below hb⟩
theorem enC_len {e : En} (h : e.k.length = 32) : (enC e).length = 33 := by simp [enC, h]
def EA (w : World) (A : Option Addr) (es : List En) : Prop := ∀ i e, es[i]? = some e → EnOk w e ∧ ∃ g o, A = some ⟨g, o, none⟩ ∧ w.rangeAt g (o + i * 33) (enC e)
theorem range_below {w w' : World} {g o : Nat} {cs : List Value} (h : w.rangeAt g o cs) (hb : Below w.heap.size w w') : w'.rangeAt g o cs := fun j v hv => by
 have h1 := h j v hv
 rw [hb.cell (lt_of_cell h1)]
 exact h1
theorem range_key {w : World} {g o : Nat} {e : En} (h : w.rangeAt g o (enC e)) (hk : e.k.length = 32) : ldA 48 w (.pointer (some ⟨g, o, none⟩)) = .ok (.value (.agg (bA e.k))) w := by
 have := ldA_of (t := 48) (w := w) (b := g) (o := o) (cs := e.k.map bv) (fun j v hv => h j v (by
  unfold enC
  rw [List.getElem?_append_left (List.getElem?_eq_some_iff.1 hv).1]
  exact hv)) Tryz.underlying48 (by rw [List.length_map, hk]; exact infoKey)
 exact this
theorem range_val {w : World} {g o : Nat} {e : En} (h : w.rangeAt g o (enC e)) (hk : e.k.length = 32) : w.cell? ⟨g, o + 32, none⟩ = some (.slice e.A e.v.length e.c) :=
 h 32 _ (by
  unfold enC
  rw [List.getElem?_append_right (by simp [hk])]
  simp [hk])
@[go_sem ↓] theorem execOp_loadEntry (ρ : Operand → Value) (dst : Option Tmp) (x : Operand) (type : TypeId) (pos : String) (after : Array Edge) (guard : Option (Nat × Bool)) (w : World) :
  Sem.run Tryz.prog (execOp ρ { dst, op := .load 110 x, type, pos, after, guard }) w = ldA 110 w (ρ x) := rfl
@[go_sem ↓] theorem execOp_buildEntry (ρ : Operand → Value) (dst : Option Tmp) (parts : Array (Nat × Operand)) (type : TypeId) (pos : String) (after : Array Edge) (guard : Option (Nat × Bool)) (w : World) :
  Sem.run Tryz.prog (execOp ρ { dst, op := .build 110 parts, type, pos, after, guard }) w = bldA 110 w (parts.map fun x => (x.1, ρ x.2)) := rfl
noncomputable def bsE (w : World) (n : Nat) (parts : Array (Nat × Value)) : Result Next := Sem.run Tryz.prog (do pure (.value (← Instr.buildSlice 60 n parts))) w
@[go_sem ↓] theorem execOp_build_ents (ρ : Operand → Value) (dst : Option Tmp) (n : Nat) (parts : Array (Nat × Operand)) (type : TypeId) (pos : String) (after : Array Edge) (guard : Option (Nat × Bool)) (w : World) :
  Sem.run Tryz.prog (execOp ρ { dst, op := .buildSlice 60 n parts, type, pos, after, guard }) w = bsE w n (parts.map fun x => (x.1, ρ x.2)) := rfl
def OwnE (w : World) (B : Nat) (v : Value) (es : List En) : Prop := w.ownsRow B 110 33 v es.length (es.flatMap enC)
theorem OwnE.nil (w : World) (B : Nat) : OwnE w B (.slice none 0 0) [] := ⟨rfl, .inl ⟨rfl, rfl⟩⟩
theorem OwnE.mono {w : World} {B B' : Nat} {v : Value} {es : List En} (h : OwnE w B v es) (hB : B' ≤ B) : OwnE w B' v es := by
 obtain ⟨h0, h | ⟨g, cap, cur, rfl, hg, hr⟩⟩ := h
 ·exact ⟨h0, .inl h⟩
 ·exact ⟨h0, .inr ⟨g, cap, cur, rfl, by omega, hr⟩⟩
theorem flat_at {es : List En} (hes : ∀ e ∈ es, e.k.length = 32) {i : Nat} {e : En} (hi : es[i]? = some e) {j : Nat} {v : Value} (hv : (enC e)[j]? = some v) : (es.flatMap enC)[i * 33 + j]? = some v := by
 induction es generalizing i with
 | nil => simp at hi
 | cons x r ih =>
  have hx : (enC x).length = 33 := enC_len (hes x (by simp))
  rw [List.flatMap_cons]
  cases i with
  | zero =>
   simp at hi
   subst hi
   rw [Nat.zero_mul, Nat.zero_add, List.getElem?_append_left (List.getElem?_eq_some_iff.1 hv).1]
   exact hv
  | succ i =>
   rw [List.getElem?_append_right (by rw [hx]; omega), hx, show (i + 1) * 33 + j - 33 = i * 33 + j by omega]
   exact ih (fun y hy => hes y (by simp [hy])) hi
theorem OwnE.ea {w : World} {B : Nat} {v : Value} {es : List En} (h : OwnE w B v es) (hes : ∀ e ∈ es, EnOk w e) : ∃ A c, v = .slice A es.length c ∧ es.length ≤ c ∧ EA w A es := by
 obtain ⟨h0, ⟨rfl, h⟩ | ⟨g, cap, cur, rfl, hg, hh, hn, hc, hs, ht⟩⟩ := h
 ·exact ⟨none, 0, by rw [h], by omega, fun i e hi => by
   have : es = [] := List.length_eq_zero_iff.1 h
   subst this; simp at hi⟩
 ·refine ⟨_, cap, rfl, hn, fun i e hi => ⟨hes e (List.mem_of_getElem? hi), g, 0, rfl, fun j x hx => ?_⟩⟩
  have h1 := flat_at (fun e he => (hes e he).key) hi hx
  have hlt := (List.getElem?_eq_some_iff.1 h1).1
  rw [h0] at hlt
  rw [Nat.zero_add, cell_of_cells hh, ← Array.getElem?_toList, ← h1, ← ht, List.getElem?_take, if_pos hlt]
end
section
open Go.RowKit
theorem bA_key (l : List UInt8) (h : l.length = 32) : bA l = Bt.kc (keyF l) := by
 apply Array.toList_inj.1
 refine List.ext_getElem (by simp [bA, Bt.kc, h]) fun j h1 h2 => ?_
 have h3 : j < l.length := by simpa [bA] using h1
 simp [bA, Bt.kc, keyF, bv, List.getD_eq_getElem?_getD, h3]
theorem bitK_c (k : List UInt8) (hk : k.length = 32) (d : Int) (w : World) : Calls Tryz.prog 78 #[.agg (bA k), .int .i64 d] w fun e w' => e = .returned (.int .i64 (bitK k d)) ∧ Below w.heap.size w w' := by
 rw [bA_key k hk]
 exact Bt.rbit_c (keyF k) (keyF_byt k) d w
end
section
open Go.RowKit
theorem ent_made (w : World) (e : En) (t : TypeId) : (w.alloc (.cells (enC e).toArray t)).rangeAt w.heap.size 0 (enC e) := fun j v hv => by
 rw [Nat.zero_add, cell_of_cells (heap_alloc_new w _)]
 simpa using hv
def partE (es : List En) (d b : Int) : List En := es.filter fun e => decide (bitK e.k d = b)
end
section
open Go.RowKit
end
section
open Go.RowKit
end
section
open Go.RowKit
end
end Go.Proofs.YtjgdindjimbfeaaGreatDoor
