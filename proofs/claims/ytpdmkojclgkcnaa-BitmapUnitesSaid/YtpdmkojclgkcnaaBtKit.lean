/- Laws for the walks over keys: a key's 32 bytes stay folded ('kc k'). -/
import Derived.Test.YtpdmkojclgkcnaaRows
import Derived.WalkKit
import Derived.Lib.Hide
import Derived.WalkLawsBesides
import Derived.BigQuiet
import Derived.Deep.WholeRow
import Derived.ChangeKeysEq
import Derived.Test.YtpdmkojclgkcnaaTail
import Derived.Test.YtpdmkojclgkcnaaBtPure
namespace Go.Proofs.Ytpdmkojclgkcnaa.Bt
open Go.RowKit

/-- A key's bytes, as a function of the place. -/
def kc (k : Nat → Nat) : Array Value := ((List.range 32).map fun j => Value.int .u8 (k j)).toArray
theorem kc_size (k : Nat → Nat) : (kc k).size = 32 := by simp [kc]
theorem kc_at (k : Nat → Nat) (j : Nat) (h : j < 32) : (kc k)[j]? = some (.int .u8 (k j)) := by
  simp [kc, h]
theorem kc_congr {a b : Nat → Nat} (h : ∀ j, j < 32 → a j = b j) : kc a = kc b := by
  unfold kc
  congr 1
  exact List.map_congr_left fun j hj => by rw [h j (by simpa using hj)]

/-- The key of zeros. -/
def kz : Nat → Nat := fun _ => 0

/-- Two keys are equal. -/
def keq (a b : Nat → Nat) : Bool := (List.range 32).all fun j => a j == b j
theorem keq_iff (a b : Nat → Nat) : keq a b = true ↔ ∀ j, j < 32 → a j = b j := by simp [keq]

theorem info23 : (Try.prog.info? 31).map (·.size) = some 32 := by kernel_rfl

/-! ### A load and a store of a whole key -/
noncomputable def ldKey (w : World) (v : Value) : Result Next := Sem.run Try.prog (do pure (.value (← Instr.loadAt 31 v))) w
noncomputable def stKey (w : World) (p v : Value) : Result Next := Sem.run Try.prog (do Instr.storeAt 31 p v; pure .skip) w

@[go_sem ↓] theorem execOp_load_key (ρ : Operand → Value) (dst : Option Tmp) (x : Operand) (type : TypeId) (pos : String) (after : Array Edge) (guard : Option (Nat × Bool)) (w : World) :
    Sem.run Try.prog (execOp ρ { dst, op := .load 31 x, type, pos, after, guard }) w = ldKey w (ρ x) := rfl
@[go_sem ↓] theorem execOp_store_key (ρ : Operand → Value) (dst : Option Tmp) (x y : Operand) (type : TypeId) (pos : String) (after : Array Edge) (guard : Option (Nat × Bool)) (w : World) :
    Sem.run Try.prog (execOp ρ { dst, op := .store 31 x y, type, pos, after, guard }) w = stKey w (ρ x) (ρ y) := rfl

theorem ldKey_of {w : World} {b : Nat} {k : Nat → Nat} {t : TypeId} {fr : Nat × Nat} (h : w.heap[b]? = some (.cells (kc k) t fr)) :
    ldKey w (.pointer (some ⟨b, 0, none⟩)) = .ok (.value (.agg (kc k))) w := by
  unfold ldKey
  simp only [Instr.loadAt, Instr.sureAddr, Sem.run_bind, Sem.run_pure, Result.andThen_ok]
  rw [run_loadVar_row (P := Try.prog) w b t 31 (kc k) fr (.array 32 5) h Try.underlying31 rfl (by rw [kc_size]; exact info23)]
  rfl
@[go_sem] theorem ldKey_new (w : World) (k : Nat → Nat) : ldKey (w.alloc (.cells (kc k) 31)) (.pointer (some ⟨w.heap.size, 0, none⟩)) = .ok (.value (.agg (kc k))) (w.alloc (.cells (kc k) 31)) :=
  ldKey_of (heap_alloc_last w _)

theorem oneCell_key (k : Nat → Nat) : (kc k).all (·.oneCell') = true := by
  simp [kc, Value.oneCell']
theorem stKey_of {w : World} {b : Nat} {k k' : Nat → Nat} {t : TypeId} (h : w.heap[b]? = some (.cells (kc k) t (0, 0))) :
    stKey w (.pointer (some ⟨b, 0, none⟩)) (.agg (kc k')) = .ok .skip (w.setRow b (kc k')) := by
  unfold stKey
  simp only [Instr.storeAt, Instr.sureAddr, Sem.run_bind, Sem.run_pure, Result.andThen_ok]
  rw [run_storeVar_row (P := Try.prog) w b t 31 (kc k) (kc k') h (by rw [kc_size]; exact info23) (by rw [kc_size, kc_size]) (oneCell_key k')]
  rfl

@[go_sem] theorem stKey_new (w : World) (k k' : Nat → Nat) : stKey (w.alloc (.cells (kc k) 31)) (.pointer (some ⟨w.heap.size, 0, none⟩)) (.agg (kc k')) = .ok .skip (w.alloc (.cells (kc k') 31)) := by
  rw [stKey_of (heap_alloc_last w _), World.setRow_alloc_new]
@[go_sem] theorem stKey_two (w : World) (o : Obj) (k k' : Nat → Nat) : stKey ((w.alloc o).alloc (.cells (kc k) 31)) (.pointer (some ⟨w.heap.size + 1, 0, none⟩)) (.agg (kc k')) = .ok .skip ((w.alloc o).alloc (.cells (kc k') 31)) := by
  have := stKey_new (w.alloc o) k k'
  rwa [show (w.alloc o).heap.size = w.heap.size + 1 by simp] at this

theorem setRow_two (w : World) (o : Obj) (c c' : Array Value) (t : TypeId) : ((w.alloc (.cells c t)).alloc o).setRow w.heap.size c' = (w.alloc (.cells c' t)).alloc o := by
  have hx : (((w.alloc (.cells c t)).alloc o).setRow w.heap.size c').heap = ((w.alloc (.cells c' t)).alloc o).heap := by
    apply Array.ext_getElem?
    intro i
    by_cases h : i = w.heap.size
    · subst h
      rw [setRow_heap _ _ _ _ _ _ (heap_alloc2_old w _ _), heap_alloc2_old w _ _]
    · rw [setRow_other _ _ _ _ h]
      rcases Nat.lt_or_ge i w.heap.size with h' | h'
      · rw [Below.heap_alloc _ _ _ (by simp; omega), Below.heap_alloc _ _ _ h', Below.heap_alloc _ _ _ (by simp; omega), Below.heap_alloc _ _ _ h']
      · by_cases e : i = w.heap.size + 1
        · subst e; rw [heap_alloc2_new w _ _, heap_alloc2_new w _ _]
        · rw [Array.getElem?_eq_none (by simp; omega), Array.getElem?_eq_none (by simp; omega)]
  show ({ ((w.alloc (.cells c t)).alloc o) with heap := (((w.alloc (.cells c t)).alloc o).setRow w.heap.size c').heap } : World) = _
  rw [hx]
  rfl
@[go_sem] theorem stKey_two_old (w : World) (o : Obj) (k k' : Nat → Nat) : stKey ((w.alloc (.cells (kc k) 31)).alloc o) (.pointer (some ⟨w.heap.size, 0, none⟩)) (.agg (kc k')) = .ok .skip ((w.alloc (.cells (kc k') 31)).alloc o) := by
  rw [stKey_of (heap_alloc2_old w _ _), setRow_two]

/-- A byte of a key set. -/
@[go_sem] theorem kc_set (k : Nat → Nat) (j : Nat) (x : Nat) : (kc k).setIfInBounds j (.int .u8 x) = kc (upd k j x) := by
  apply Array.ext_getElem?
  intro i
  rw [Array.getElem?_setIfInBounds]
  rcases Nat.lt_or_ge i 32 with h | h
  · rw [kc_at _ i h, kc_at _ i h, kc_size]
    unfold upd
    by_cases e : j = i
    · subst e; simp [h]
    · have e' : ¬ i = j := fun h => e h.symm
      simp [e, e']
  · have hs : ∀ q : Nat → Nat, (kc q)[i]? = none := fun q => Array.getElem?_eq_none (by rw [kc_size]; exact h)
    rw [hs, hs, kc_size]
    by_cases e : j = i
    · subst e; simp [h]
    · simp [e]
@[go_sem] theorem setCell_drewN (w : World) (n : Nat) (a : Addr) (v : Value) : (w.drewN n).setCell a v = (w.setCell a v).drewN n := rfl
@[go_sem] theorem ldKey_new_d (w : World) (k : Nat → Nat) (n : Nat) : ldKey ((w.alloc (.cells (kc k) 31)).drewN n) (.pointer (some ⟨w.heap.size, 0, none⟩)) = .ok (.value (.agg (kc k))) ((w.alloc (.cells (kc k) 31)).drewN n) :=
  ldKey_of (heap_alloc_last w _)
@[go_sem] theorem stKey_two_d (w : World) (o : Obj) (k k' : Nat → Nat) (n : Nat) : stKey (((w.alloc o).alloc (.cells (kc k) 31)).drewN n) (.pointer (some ⟨w.heap.size + 1, 0, none⟩)) (.agg (kc k')) = .ok .skip (((w.alloc o).alloc (.cells (kc k') 31)).drewN n) := by
  rw [stKey_of (w := ((w.alloc o).alloc (.cells (kc k) 31)).drewN n) (heap_alloc2_new w _ _)]
  have := World.setRow_alloc_new (w.alloc o) (kc k) (kc k') 31
  rw [show (w.alloc o).heap.size = w.heap.size + 1 by simp] at this
  rw [← this]
  rfl

/-! ### A key's block, in whatever world -/
def KeyAt (w : World) (b : Nat) (k : Nat → Nat) : Prop := w.heap[b]? = some (.cells (kc k) 31 (0, 0))
theorem KeyAt.cell {w : World} {b : Nat} {k : Nat → Nat} (h : KeyAt w b k) {j : Nat} (hj : j < 32) : w.cell? ⟨b, j, none⟩ = some (.int .u8 (k j)) := by
  rw [cell_of_row _ _ _ _ _ _ h]; exact kc_at k _ hj
theorem KeyAt.free {w : World} {b : Nat} {k : Nat → Nat} (h : KeyAt w b k) (j : Nat) : w.frozen? ⟨b, j, none⟩ = false := frozen_of_row w b j _ _ h
theorem KeyAt.ld {w : World} {b : Nat} {k : Nat → Nat} (h : KeyAt w b k) : ldKey w (.pointer (some ⟨b, 0, none⟩)) = .ok (.value (.agg (kc k))) w := ldKey_of h
theorem KeyAt.st {w : World} {b : Nat} {k : Nat → Nat} (h : KeyAt w b k) (k' : Nat → Nat) : stKey w (.pointer (some ⟨b, 0, none⟩)) (.agg (kc k')) = .ok .skip (w.setRow b (kc k')) := stKey_of h
theorem KeyAt.set {w : World} {b : Nat} {k : Nat → Nat} (h : KeyAt w b k) (j x : Nat) : KeyAt (w.setCell ⟨b, j, none⟩ (.int .u8 x)) b (upd k j x) := by
  have := heap_setCell_same w b j (kc k) 31 (.int .u8 x) h
  rwa [kc_set] at this
theorem KeyAt.set_other {w : World} {b c : Nat} {k : Nat → Nat} (h : KeyAt w b k) (hne : b ≠ c) (j : Nat) (v : Value) : KeyAt (w.setCell ⟨c, j, none⟩ v) b k := by
  unfold KeyAt
  rw [heap_setCell_other _ _ _ _ hne]
  exact h
theorem KeyAt.row {w : World} {b : Nat} {k : Nat → Nat} (h : KeyAt w b k) (k' : Nat → Nat) : KeyAt (w.setRow b (kc k')) b k' := setRow_heap w b _ _ 31 _ h
theorem KeyAt.row_other {w : World} {b c : Nat} {k : Nat → Nat} (h : KeyAt w b k) (hne : b ≠ c) (x : Array Value) : KeyAt (w.setRow c x) b k := by
  unfold KeyAt
  rw [setRow_other _ _ _ _ hne]
  exact h
theorem KeyAt.drewN {w : World} {b : Nat} {k : Nat → Nat} (h : KeyAt w b k) (n : Nat) : KeyAt (w.drewN n) b k := h
theorem KeyAt.lt {w : World} {b : Nat} {k : Nat → Nat} (h : KeyAt w b k) : b < w.heap.size := by
  rcases Nat.lt_or_ge b w.heap.size with h' | h'
  · exact h'
  · unfold KeyAt at h; rw [Array.getElem?_eq_none h'] at h; cases h
theorem KeyAt.below {w w' : World} {b B : Nat} {k : Nat → Nat} (h : KeyAt w b k) (hb : Below B w w') (hB : b < B) : KeyAt w' b k := by
  unfold KeyAt
  rw [hb.block b hB]
  exact h
theorem KeyAt.congr {w : World} {b : Nat} {k k' : Nat → Nat} (h : KeyAt w b k) (e : ∀ j, j < 32 → k j = k' j) : KeyAt w b k' := by
  unfold KeyAt
  rw [← kc_congr e]
  exact h
theorem KeyAt.one (w : World) (k : Nat → Nat) : KeyAt (w.alloc (.cells (kc k) 31)) w.heap.size k := heap_alloc_last w _
theorem KeyAt.two (w : World) (k : Nat → Nat) (o : Obj) : KeyAt ((w.alloc (.cells (kc k) 31)).alloc o) w.heap.size k := heap_alloc2_old w _ _
theorem KeyAt.two' (w : World) (k : Nat → Nat) (o : Obj) : KeyAt ((w.alloc o).alloc (.cells (kc k) 31)) (w.heap.size + 1) k := heap_alloc2_new w _ _
theorem below_row {B g : Nat} {a w : World} (h : Below B a w) (hg : B ≤ g) (c : Array Value) : Below B a (w.setRow g c) :=
  ⟨h.os, h.tape, h.output, by rw [setRow_size]; exact h.size, fun i hi => by rw [setRow_other _ _ _ _ (by omega)]; exact h.block i hi⟩

/-! ### Two keys held against each other -/
theorem run_eqItems_keys (w : World) (d : Nat) (a b : Nat → Nat) : ∀ is : List Nat, (∀ j ∈ is, j < 32) →
    (Op.eqItems (d + 1) 5 1 (kc a) (kc b) is).run Try.prog w = .ok (is.all fun j => a j == b j) w
  | [], _ => rfl
  | j :: is, h => by
    have hj : j < 32 := h j (by simp)
    have ih := run_eqItems_keys w d a b is (fun i hi => h i (by simp [hi]))
    have pa : (part 5 (kc a) (j * 1)).run Try.prog w = .ok (.int .u8 (a j)) w := by
      simp [part, Sem.run_bind, Try.isAgg5, kc_at a j hj]
    have pb : (part 5 (kc b) (j * 1)).run Try.prog w = .ok (.int .u8 (b j)) w := by
      simp [part, Sem.run_bind, Try.isAgg5, kc_at b j hj]
    simp only [Op.eqItems, Sem.run_bind, pa, pb, Result.andThen_ok, run_equalIn_int w d 5 .u8 .u8 (a j) (b j) Try.underlying5]
    by_cases e : a j = b j
    · simp [e, ih]
    · have : ((a j : Int) == (b j : Int)) = false := by simp; omega
      simp [this, e]
set_option maxRecDepth 100000 in
@[go_sem] theorem run_equalIn_keys (w : World) (a b : Nat → Nat) : (Op.equalIn 10000 31 (.agg (kc a)) (.agg (kc b))).run Try.prog w = .ok (keq a b) w := by
  obtain ⟨i, hi⟩ : ∃ i, Try.prog.info? 5 = some i := ⟨_, rfl⟩
  rw [show (10000 : Nat) = 9999 + 1 from rfl, run_equalIn_array w 9999 (kc a) (kc b) Try.underlying31 hi]
  have : Try.prog.cellsOf 5 = 1 := by kernel_rfl
  rw [this]
  exact run_eqItems_keys w 9998 a b _ (by simp)
@[go_sem ↓] theorem zero23 (w : World) : (zeroValue 31).run Try.prog w = .ok (.agg (kc kz)) w := by
  rw [Try.zeroValue31]; rfl

theorem below_drewN {B : Nat} {a w : World} (h : Below B a w) (n : Nat) : Below B a (w.drewN n) := ⟨h.os, h.tape, h.output, h.size, h.block⟩
/-- Cells of keys in the blocks that were just made. -/
theorem key_cell (w : World) (k : Nat → Nat) (j : Nat) (h : j < 32) : ((w.alloc (.cells (kc k) 31)).cell? ⟨w.heap.size, j, none⟩) = some (.int .u8 (k j)) := by
  rw [cell_of_row _ _ _ _ _ _ (heap_alloc_last w _)]; exact kc_at k _ h
theorem key_cell2 (w : World) (o : Obj) (k : Nat → Nat) (j : Nat) (h : j < 32) : (((w.alloc (.cells (kc k) 31)).alloc o).cell? ⟨w.heap.size, j, none⟩) = some (.int .u8 (k j)) := by
  rw [cell_of_row _ _ _ _ _ _ (heap_alloc2_old w _ _)]; exact kc_at k _ h
theorem key_cell1 (w : World) (o : Obj) (k : Nat → Nat) (j : Nat) (h : j < 32) : (((w.alloc o).alloc (.cells (kc k) 31)).cell? ⟨w.heap.size + 1, j, none⟩) = some (.int .u8 (k j)) := by
  rw [cell_of_row _ _ _ _ _ _ (heap_alloc2_new w _ _)]; exact kc_at k _ h
@[go_sem] theorem ldKey_two (w : World) (k : Nat → Nat) (o : Obj) : ldKey ((w.alloc (.cells (kc k) 31)).alloc o) (.pointer (some ⟨w.heap.size, 0, none⟩)) = .ok (.value (.agg (kc k))) ((w.alloc (.cells (kc k) 31)).alloc o) :=
  ldKey_of (heap_alloc2_old w _ _)
@[go_sem] theorem ldKey_two' (w : World) (k : Nat → Nat) (o : Obj) : ldKey ((w.alloc o).alloc (.cells (kc k) 31)) (.pointer (some ⟨w.heap.size + 1, 0, none⟩)) = .ok (.value (.agg (kc k))) ((w.alloc o).alloc (.cells (kc k) 31)) :=
  ldKey_of (heap_alloc2_new w _ _)

@[go_sem] theorem ldKey_two_d (w : World) (k : Nat → Nat) (o : Obj) (n : Nat) : ldKey (((w.alloc (.cells (kc k) 31)).alloc o).drewN n) (.pointer (some ⟨w.heap.size, 0, none⟩)) = .ok (.value (.agg (kc k))) (((w.alloc (.cells (kc k) 31)).alloc o).drewN n) :=
  ldKey_of (heap_alloc2_old w _ _)
@[go_sem] theorem ldKey_two_d' (w : World) (k : Nat → Nat) (o : Obj) (n : Nat) : ldKey (((w.alloc o).alloc (.cells (kc k) 31)).drewN n) (.pointer (some ⟨w.heap.size + 1, 0, none⟩)) = .ok (.value (.agg (kc k))) (((w.alloc o).alloc (.cells (kc k) 31)).drewN n) :=
  ldKey_of (heap_alloc2_new w _ _)

/-! ### The class of worlds behind 'W': what was there is as it was -/
structure Later (W : World) where
  w : World
  h : Below W.heap.size W w
instance (W : World) : Nonempty (Later W) := ⟨⟨W, Below.refl _ _⟩⟩
theorem Later.block {W : World} (x : Later W) {b : Nat} {o : Obj} (h : W.heap[b]? = some o) : x.w.heap[b]? = some o := by
  rw [x.h.block b (by
    rcases Nat.lt_or_ge b W.heap.size with h' | h'
    · exact h'
    · rw [Array.getElem?_eq_none h'] at h; cases h)]
  exact h
theorem Later.call {P : Program} {W : World} {x : Later W} {f : FuncId} {args : Array Value} {v : Value}
    (h : Calls P f args x.w fun e w' => e = .returned v ∧ Below x.w.heap.size x.w w') : Calls P f args x.w fun e w'' => e = .returned v ∧ ∃ y : Later W, w'' = y.w :=
  h.mono fun _ w' ⟨he, hb⟩ => ⟨he, ⟨w', x.h.trans (hb.mono x.h.size)⟩, rfl⟩
theorem wp_region_later {P : Program} {id : Nat} {Q : Exit → Act → World → Prop} {a : Act} {w : World} {l : List Oper} (hm : P.follows .mixedOrders = true) (hB : Region.lexB .any l.toArray = true)
    (h : wpQuiet P l.toArray (fun w' => ∃ x : Later w, w' = x.w) (fun a' => ∀ w', (∃ x : Later w, w' = x.w) → Q .normal a' w') l a) : (Code.region id l.toArray true).wp P Q a w :=
  wp_region_quiet (C := fun w' => ∃ x : Later w, w' = x.w) hm hB ⟨⟨w.drew, (Below.refl _ _).drew⟩, rfl⟩ (by simpa using h)

/-- The region whose last operations write: the class 'w behind some draws' before them. -/
theorem wp_region_drawn_tail {P : Program} {id : Nat} {Q : Exit → Act → World → Prop} {a : Act} {w : World} {l : List Oper} (n : Nat) (hm : P.follows .mixedOrders = true) (hB : Region.lexTailB .any l.toArray n = true)
    (h : wpQuiet P l.toArray (fun w' => ∃ n, w' = w.drewN n) (fun a' => ∀ w', (∃ n, w' = w.drewN n) → wpList P l.toArray Q (l.drop n) a' w') (l.take n) a) : (Code.region id l.toArray true).wp P Q a w :=
  wp_region_quiet_tail (C := fun w' => ∃ n, w' = w.drewN n) n hm hB ⟨1, rfl⟩ h
theorem one_below (w : World) (o : Obj) : Below w.heap.size w (w.alloc o) := (Below.refl _ _).alloc (Nat.le_refl _) _
theorem two_below (w : World) (o p : Obj) : Below w.heap.size w ((w.alloc o).alloc p) :=
  ((Below.refl _ _).alloc (Nat.le_refl _) _).alloc (by simp) _
theorem Later.one {w : World} {o : Obj} (x : Later (w.alloc o)) : Below w.heap.size w x.w := (one_below w o).trans (x.h.mono (by simp))
theorem Later.two {w : World} {o p : Obj} (x : Later ((w.alloc o).alloc p)) : Below w.heap.size w x.w := (two_below w o p).trans (x.h.mono (by simp; omega))
theorem Later.ld_one {w : World} {k : Nat → Nat} (x : Later (w.alloc (.cells (kc k) 31))) : ldKey x.w (.pointer (some ⟨w.heap.size, 0, none⟩)) = .ok (.value (.agg (kc k))) x.w :=
  ldKey_of (x.block (heap_alloc_last w _))
theorem Later.ld_two {w : World} {k : Nat → Nat} {o : Obj} (x : Later ((w.alloc (.cells (kc k) 31)).alloc o)) : ldKey x.w (.pointer (some ⟨w.heap.size, 0, none⟩)) = .ok (.value (.agg (kc k))) x.w :=
  ldKey_of (x.block (heap_alloc2_old w _ _))
theorem Later.ld_two' {w : World} {k : Nat → Nat} {o : Obj} (x : Later ((w.alloc o).alloc (.cells (kc k) 31))) : ldKey x.w (.pointer (some ⟨w.heap.size + 1, 0, none⟩)) = .ok (.value (.agg (kc k))) x.w :=
  ldKey_of (x.block (heap_alloc2_new w _ _))

end Go.Proofs.Ytpdmkojclgkcnaa.Bt
