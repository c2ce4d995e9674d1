/- Whole arrays stay folded: load, store, index of an array whose cells are one array; what a call may write. -/
import Derived.Test.YtaggbmlkfdfjpaaDoorB
import Derived.Test.YtaggbmlkfdfjpaaDoorPd
import Derived.Deep.WholeRow
import Derived.Test.YtaggbmlkfdfjpaaDoorTail
import Derived.Deep.MidRow
import Derived.Laws.CopyOwn
namespace Go.Proofs.YtaggbmlkfdfjpaaDoor
open Go.RowKit

/-! ### What a call may write -/
structure Keep (L : Nat → Prop) (w w' : World) : Prop where
  os : w'.os = w.os
  tape : w'.tape = w.tape
  output : w'.output = w.output
  size : w.heap.size ≤ w'.heap.size
  block : ∀ k, k < w.heap.size → ¬ L k → w'.heap[k]? = w.heap[k]?
theorem Keep.refl (L : Nat → Prop) (w : World) : Keep L w w := ⟨rfl, rfl, rfl, Nat.le_refl _, fun _ _ _ => rfl⟩
theorem Keep.step {L M : Nat → Prop} {a b c : World} (h : Keep L a b) (k : Keep M b c) (hm : ∀ i, M i → L i ∨ a.heap.size ≤ i) : Keep L a c :=
  ⟨k.os.trans h.os, k.tape.trans h.tape, k.output.trans h.output, Nat.le_trans h.size k.size, fun i hi hl => (k.block i (Nat.lt_of_lt_of_le hi h.size) fun hM => by
    rcases hm i hM with h1 | h1
    · exact hl h1
    · omega).trans (h.block i hi hl)⟩
theorem Keep.trans {L : Nat → Prop} {a b c : World} (h : Keep L a b) (k : Keep L b c) : Keep L a c := h.step k fun _ hi => .inl hi
theorem Keep.mono {L M : Nat → Prop} {a b : World} (h : Keep L a b) (hm : ∀ i, L i → M i) : Keep M a b := ⟨h.os, h.tape, h.output, h.size, fun i hi hl => h.block i hi fun k => hl (hm i k)⟩
theorem Keep.of_below {L : Nat → Prop} {a b : World} (h : Below a.heap.size a b) : Keep L a b := ⟨h.os, h.tape, h.output, h.size, fun i hi _ => h.block i hi⟩
theorem Keep.below {L : Nat → Prop} {a b : World} (h : Keep L a b) {B : Nat} (hB : B ≤ a.heap.size) (hL : ∀ i, L i → B ≤ i) : Below B a b :=
  ⟨h.os, h.tape, h.output, h.size, fun i hi => h.block i (by omega) fun hl => by have := hL i hl; omega⟩
theorem Keep.alloc {L : Nat → Prop} {a b : World} (h : Keep L a b) (o : Obj) : Keep L a (b.alloc o) := h.step (Keep.of_below (L := fun _ => False) ((Below.refl _ _).alloc (Nat.le_refl _) o)) fun _ hi => hi.elim
theorem Keep.drewN {L : Nat → Prop} {a b : World} (h : Keep L a b) (n : Nat) : Keep L a (b.drewN n) := ⟨h.os, h.tape, h.output, h.size, h.block⟩
theorem Keep.drew {L : Nat → Prop} {a b : World} (h : Keep L a b) : Keep L a b.drew := ⟨h.os, h.tape, h.output, h.size, h.block⟩
theorem Keep.row (w : World) (g : Nat) (cs : Array Value) : Keep (fun i => i = g) w (w.setRow g cs) := ⟨rfl, rfl, rfl, by simp, fun _ _ h => setRow_other _ _ _ _ h⟩
theorem Keep.cell (w : World) (a : Addr) (v : Value) : Keep (fun i => i = a.block) w (w.setCell a v) := ⟨rfl, rfl, rfl, by simp [World.setCell], fun _ _ h => Below.heap_setCell _ _ _ _ h⟩
theorem Keep.heap {L : Nat → Prop} {a b : World} (h : Keep L a b) {k : Nat} {o : Obj} (hk : a.heap[k]? = some o) (hl : ¬ L k) : b.heap[k]? = some o := (h.block k (lt_of_heap hk) hl).trans hk
theorem Keep.cellAt {L : Nat → Prop} {a b : World} (h : Keep L a b) {p : Addr} {v : Value} (hk : a.cell? p = some v) (hl : ¬ L p.block) : b.cell? p = some v :=
  (World.cell?_of_block (w := a) (h.block p.block (lt_of_cell hk) hl)).trans hk

attribute [go_sem] u_one bv_one
@[go_sem] theorem run_store_u (w : World) (a : Addr) (x : UInt32) (m : Mode) : (store a (u x) m).run Tryd.prog w = stored Tryd.prog w a (u x) m := run_store Tryd.prog w a _ m rfl
@[go_sem] theorem run_store_bv (w : World) (a : Addr) (x : UInt8) (m : Mode) : (store a (bv x) m).run Tryd.prog w = stored Tryd.prog w a (bv x) m := run_store Tryd.prog w a _ m rfl
noncomputable def stU (w : World) (p v : Value) : Result Next := Sem.run Tryd.prog (do Instr.storeAt 49 p v; pure .skip) w
@[go_sem ↓] theorem execOp_store38 (ρ : Operand → Value) (dst : Option Tmp) (x y : Operand) (type : TypeId) (pos : String) (after : Array Edge) (guard : Option (Nat × Bool)) (w : World) :
    Sem.run Tryd.prog (execOp ρ { dst, op := .store 49 x y, type, pos, after, guard }) w = stU w (ρ x) (ρ y) := rfl
@[go_sem] theorem stU_u (w : World) (g j : Nat) (x : UInt32) : stU w (.pointer (some ⟨g, j, none⟩)) (u x) = ((store ⟨g, j, none⟩ (u x)).run Tryd.prog w).andThen fun _ w' => .ok .skip w' := by
  obtain ⟨i0, hi, hz0, hz1, hz2⟩ := info_parts info38
  have hadd : (⟨g, j, none⟩ : Addr).add 0 = ⟨g, j, none⟩ := by unfold Addr.add; split <;> simp_all
  have hs : (sizeOf 49).run Tryd.prog w = .ok 1 w := by simp [sizeOf, typeInfo, hi, hz1]
  have hc : (u x).cells = #[u x] := rfl
  unfold stU
  simp [Instr.storeAt, Instr.sureAddr, storeVar, hs, hc, storeCells, hadd]
/-! ### Regions that draw their order -/
/-- The region whose last operations write: the class 'w behind some draws' before them. -/
theorem wp_region_drawn_tail {P : Program} {id : Nat} {Q : Exit → Act → World → Prop} {a : Act} {w : World} {l : List Oper} (n : Nat) (hm : P.follows .mixedOrders = true) (hB : Region.lexTailB .any l.toArray n = true)
    (h : wpQuiet P l.toArray (fun w' => ∃ n, w' = w.drewN n) (fun a' => ∀ w', (∃ n, w' = w.drewN n) → wpList P l.toArray Q (l.drop n) a' w') (l.take n) a) : (Code.region id l.toArray true).wp P Q a w :=
  wp_region_quiet_tail (C := fun w' => ∃ n, w' = w.drewN n) n hm hB ⟨1, rfl⟩ h
@[go_sem] theorem setCell_drewN (w : World) (n : Nat) (a : Addr) (v : Value) : (w.drewN n).setCell a v = (w.setCell a v).drewN n := rfl
/-- The class of worlds behind W: what was there is as it was. -/
structure Later (W : World) where
  w : World
  h : Below W.heap.size W w
instance (W : World) : Nonempty (Later W) := ⟨⟨W, Below.refl _ _⟩⟩
theorem Later.block {W : World} (x : Later W) {b : Nat} {o : Obj} (h : W.heap[b]? = some o) : x.w.heap[b]? = some o := by
  rw [x.h.block b (lt_of_heap h)]; exact h
theorem Later.call {P : Program} {W : World} {x : Later W} {f : FuncId} {args : Array Value} {v : Value}
    (h : Calls P f args x.w fun e w' => e = .returned v ∧ Below x.w.heap.size x.w w') : Calls P f args x.w fun e w'' => e = .returned v ∧ ∃ y : Later W, w'' = y.w :=
  h.mono fun _ w' ⟨he, hb⟩ => ⟨he, ⟨w', x.h.trans (hb.mono x.h.size)⟩, rfl⟩
theorem wp_region_later {P : Program} {id : Nat} {Q : Exit → Act → World → Prop} {a : Act} {w : World} {l : List Oper} (hm : P.follows .mixedOrders = true) (hB : Region.lexB .any l.toArray = true)
    (h : wpQuiet P l.toArray (fun w' => ∃ x : Later w, w' = x.w) (fun a' => ∀ w', (∃ x : Later w, w' = x.w) → Q .normal a' w') l a) : (Code.region id l.toArray true).wp P Q a w :=
  wp_region_quiet (C := fun w' => ∃ x : Later w, w' = x.w) hm hB ⟨⟨w.drew, (Below.refl _ _).drew⟩, rfl⟩ (by simpa using h)
/-! ### Whole arrays -/
noncomputable def ldA (t : TypeId) (w : World) (v : Value) : Result Next := Sem.run Tryd.prog (do pure (.value (← Instr.loadAt t v))) w
noncomputable def stA (t : TypeId) (w : World) (p v : Value) : Result Next := Sem.run Tryd.prog (do Instr.storeAt t p v; pure .skip) w
@[go_sem ↓] theorem execOp_load26 (ρ : Operand → Value) (dst : Option Tmp) (x : Operand) (type : TypeId) (pos : String) (after : Array Edge) (guard : Option (Nat × Bool)) (w : World) :
    Sem.run Tryd.prog (execOp ρ { dst, op := .load 30 x, type, pos, after, guard }) w = ldA 30 w (ρ x) := rfl
@[go_sem ↓] theorem execOp_load39 (ρ : Operand → Value) (dst : Option Tmp) (x : Operand) (type : TypeId) (pos : String) (after : Array Edge) (guard : Option (Nat × Bool)) (w : World) :
    Sem.run Tryd.prog (execOp ρ { dst, op := .load 50 x, type, pos, after, guard }) w = ldA 50 w (ρ x) := rfl
@[go_sem ↓] theorem execOp_load56 (ρ : Operand → Value) (dst : Option Tmp) (x : Operand) (type : TypeId) (pos : String) (after : Array Edge) (guard : Option (Nat × Bool)) (w : World) :
    Sem.run Tryd.prog (execOp ρ { dst, op := .load 69 x, type, pos, after, guard }) w = ldA 69 w (ρ x) := rfl
@[go_sem ↓] theorem execOp_load58 (ρ : Operand → Value) (dst : Option Tmp) (x : Operand) (type : TypeId) (pos : String) (after : Array Edge) (guard : Option (Nat × Bool)) (w : World) :
    Sem.run Tryd.prog (execOp ρ { dst, op := .load 71 x, type, pos, after, guard }) w = ldA 71 w (ρ x) := rfl
@[go_sem ↓] theorem execOp_store26 (ρ : Operand → Value) (dst : Option Tmp) (x y : Operand) (type : TypeId) (pos : String) (after : Array Edge) (guard : Option (Nat × Bool)) (w : World) :
    Sem.run Tryd.prog (execOp ρ { dst, op := .store 30 x y, type, pos, after, guard }) w = stA 30 w (ρ x) (ρ y) := rfl
@[go_sem ↓] theorem execOp_store39 (ρ : Operand → Value) (dst : Option Tmp) (x y : Operand) (type : TypeId) (pos : String) (after : Array Edge) (guard : Option (Nat × Bool)) (w : World) :
    Sem.run Tryd.prog (execOp ρ { dst, op := .store 50 x y, type, pos, after, guard }) w = stA 50 w (ρ x) (ρ y) := rfl
@[go_sem ↓] theorem execOp_store49 (ρ : Operand → Value) (dst : Option Tmp) (x y : Operand) (type : TypeId) (pos : String) (after : Array Edge) (guard : Option (Nat × Bool)) (w : World) :
    Sem.run Tryd.prog (execOp ρ { dst, op := .store 63 x y, type, pos, after, guard }) w = stA 63 w (ρ x) (ρ y) := rfl
@[go_sem ↓] theorem execOp_store58 (ρ : Operand → Value) (dst : Option Tmp) (x y : Operand) (type : TypeId) (pos : String) (after : Array Edge) (guard : Option (Nat × Bool)) (w : World) :
    Sem.run Tryd.prog (execOp ρ { dst, op := .store 71 x y, type, pos, after, guard }) w = stA 71 w (ρ x) (ρ y) := rfl
theorem ldA_of {w : World} {b o : Nat} {t e n : Nat} {cs : List Value} (h : w.rangeAt b o cs) (hu : Tryd.prog.underlying t = some (.array n e)) (hi : (Tryd.prog.info? t).map (·.size) = some cs.length) :
    ldA t w (.pointer (some ⟨b, o, none⟩)) = .ok (.value (.agg cs.toArray)) w := by
  unfold ldA
  rw [Sem.run_bind, run_loadAt_mid (P := Tryd.prog) w b o t cs (.array n e) h hu rfl hi]
  simp [Sem.run_pure, Result.andThen_ok]
theorem ldA_row {w : World} {b : Nat} {t t' e n : Nat} {cs : Array Value} {fr : Nat × Nat} (h : w.heap[b]? = some (.cells cs t' fr)) (hu : Tryd.prog.underlying t = some (.array n e)) (hi : (Tryd.prog.info? t).map (·.size) = some cs.size) :
    ldA t w (.pointer (some ⟨b, 0, none⟩)) = .ok (.value (.agg cs)) w := by
  unfold ldA
  simp only [Instr.loadAt, Instr.sureAddr, Sem.run_bind, Sem.run_pure, Result.andThen_ok]
  rw [run_loadVar_row (P := Tryd.prog) w b t' t cs fr (.array n e) h hu rfl hi]
  rfl
theorem stA_row {w : World} {b : Nat} {t t' : Nat} {z v : Array Value} (h : w.heap[b]? = some (.cells z t' (0, 0))) (hi : (Tryd.prog.info? t).map (·.size) = some v.size) (hz : z.size = v.size) (h1 : v.all (·.oneCell') = true) :
    stA t w (.pointer (some ⟨b, 0, none⟩)) (.agg v) = .ok .skip (w.setRow b v) := by
  unfold stA
  simp only [Instr.storeAt, Instr.sureAddr, Sem.run_bind, Sem.run_pure, Result.andThen_ok]
  rw [run_storeVar_row (P := Tryd.prog) w b t' t z v h hi hz h1]
  rfl
theorem info26 : (Tryd.prog.info? 30).map (·.size) = some 32 := by kernel_rfl
theorem info39 : (Tryd.prog.info? 50).map (·.size) = some 8 := by kernel_rfl
theorem info49 : (Tryd.prog.info? 63).map (·.size) = some 8 := by kernel_rfl
theorem info56 : (Tryd.prog.info? 69).map (·.size) = some 64 := by kernel_rfl
theorem info58 : (Tryd.prog.info? 71).map (·.size) = some 64 := by kernel_rfl
/-- Bytes, words as cells. -/
def bA (l : List UInt8) : Array Value := (l.map bv).toArray
def uA (l : List UInt32) : Array Value := (l.map u).toArray
theorem bA_size (l : List UInt8) : (bA l).size = l.length := by simp [bA]
theorem uA_size (l : List UInt32) : (uA l).size = l.length := by simp [uA]
theorem bA_one (l : List UInt8) : (bA l).all (·.oneCell') = true := by simp [bA, bv, Value.oneCell']
theorem uA_one (l : List UInt32) : (uA l).all (·.oneCell') = true := by simp [uA, u, Value.oneCell']
theorem bA_at (l : List UInt8) (j : Nat) (h : j < l.length) : (bA l)[j]? = some (bv (l.getD j 0)) := by simp [bA, List.getD_eq_getElem?_getD, h]
theorem uA_at (l : List UInt32) (j : Nat) (h : j < l.length) : (uA l)[j]? = some (u (l.getD j 0)) := by simp [uA, List.getD_eq_getElem?_getD, h]
theorem bA_set (l : List UInt8) (j : Nat) (x : UInt8) : (bA l).setIfInBounds j (bv x) = bA (l.set j x) := by
  apply Array.toList_inj.1
  simp [bA, List.map_set]
theorem uA_set (l : List UInt32) (j : Nat) (x : UInt32) : (uA l).setIfInBounds j (u x) = uA (l.set j x) := by
  apply Array.toList_inj.1
  simp [uA, List.map_set]
theorem run_index_arr {t e n : Nat} {cs : Array Value} {k : Nat} {v : Value} (hu : Tryd.prog.underlying t = some (.array n e)) (ha : ∀ w, (isAgg e).run Tryd.prog w = .ok false w) (hs : ∀ w, (sizeOf e).run Tryd.prog w = .ok 1 w) (hk : k < n) (hv : cs[k]? = some v) (w : World) :
    (Instr.index t (.agg cs) (.int .i64 (k : Int))).run Tryd.prog w = .ok v w := by
  have h1 : (0 : Int) ≤ (k : Int) ∧ (k : Int) < (n : Int) := by omega
  simp [Instr.index, asIntOf, run_underlying hu, hs, part, ha, Sem.run_bind, Sem.run_pure, h1, hv]
  intro h; omega
theorem size5 (w : World) : (sizeOf 5).run Tryd.prog w = .ok 1 w := by
  obtain ⟨i0, hi, hz0, hz1, hz2⟩ := info_parts info5
  simp [sizeOf, typeInfo, hi, hz1]
theorem size38 (w : World) : (sizeOf 49).run Tryd.prog w = .ok 1 w := by
  obtain ⟨i0, hi, hz0, hz1, hz2⟩ := info_parts info38
  simp [sizeOf, typeInfo, hi, hz1]
theorem idx56 (l : List UInt8) (hl : l.length = 64) (k : Nat) (hk : k < 64) (w : World) : (Instr.index 69 (.agg (bA l)) (.int .i64 (k : Int))).run Tryd.prog w = .ok (bv (l.getD k 0)) w :=
  run_index_arr Tryd.underlying69 (fun _ => Tryd.isAgg5 _) size5 hk (bA_at l k (by omega)) w
theorem idx58 (l : List UInt32) (hl : l.length = 64) (k : Nat) (hk : k < 64) (w : World) : (Instr.index 71 (.agg (uA l)) (.int .i64 (k : Int))).run Tryd.prog w = .ok (u (l.getD k 0)) w :=
  run_index_arr Tryd.underlying71 (fun _ => Tryd.isAgg49 _) size38 hk (uA_at l k (by omega)) w
theorem idx39 (l : List UInt32) (hl : l.length = 8) (k : Nat) (hk : k < 8) (w : World) : (Instr.index 50 (.agg (uA l)) (.int .i64 (k : Int))).run Tryd.prog w = .ok (u (l.getD k 0)) w :=
  run_index_arr Tryd.underlying50 (fun _ => Tryd.isAgg49 _) size38 hk (uA_at l k (by omega)) w
end Go.Proofs.YtaggbmlkfdfjpaaDoor
