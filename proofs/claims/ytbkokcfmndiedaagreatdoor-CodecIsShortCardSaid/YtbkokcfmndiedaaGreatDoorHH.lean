/- Several texts in one: Hb Hc Hd He Hf Hg. -/
import Derived.Test.YtbkokcfmndiedaaGreatDoorM3
import Derived.Deep.AppendLies
import Derived.Deep.AppendSrc
import Derived.Laws.AppendOwn
import Derived.Deep.LoopGhost
/- A set of depths: its 32 bytes stay folded (kc k), at the type of sets and at that of arrays of 32 bytes. -/
namespace Go.Proofs.YtbkokcfmndiedaaGreatDoor.Bt
open Go.RowKit

/-! ### Bm -/
theorem infoBm : (Tryz.prog.info? 75).map (·.size) = some 32 := by kernel_rfl

noncomputable def ldBm (w : World) (v : Value) : Result Next := Sem.run Tryz.prog (do pure (.value (← Instr.loadAt 75 v))) w
noncomputable def stBm (w : World) (p v : Value) : Result Next := Sem.run Tryz.prog (do Instr.storeAt 75 p v; pure .skip) w

@[go_sem ↓] theorem execOp_load_Bm (ρ : Operand → Value) (dst : Option Tmp) (x : Operand) (type : TypeId) (pos : String) (after : Array Edge) (guard : Option (Nat × Bool)) (w : World) :
    Sem.run Tryz.prog (execOp ρ { dst, op := .load 75 x, type, pos, after, guard }) w = ldBm w (ρ x) := rfl
@[go_sem ↓] theorem execOp_store_Bm (ρ : Operand → Value) (dst : Option Tmp) (x y : Operand) (type : TypeId) (pos : String) (after : Array Edge) (guard : Option (Nat × Bool)) (w : World) :
    Sem.run Tryz.prog (execOp ρ { dst, op := .store 75 x y, type, pos, after, guard }) w = stBm w (ρ x) (ρ y) := rfl

theorem ldBm_of {w : World} {b : Nat} {k : Nat → Nat} {t : TypeId} {fr : Nat × Nat} (h : w.heap[b]? = some (.cells (kc k) t fr)) :
    ldBm w (.pointer (some ⟨b, 0, none⟩)) = .ok (.value (.agg (kc k))) w := by
  unfold ldBm
  simp only [Instr.loadAt, Instr.sureAddr, Sem.run_bind, Sem.run_pure, Result.andThen_ok]
  rw [run_loadVar_row (P := Tryz.prog) w b t 75 (kc k) fr (.array 32 5) h Tryz.underlying75 rfl (by rw [kc_size]; exact infoBm)]
  rfl
@[go_sem] theorem ldBm_new (w : World) (k : Nat → Nat) : ldBm (w.alloc (.cells (kc k) 75)) (.pointer (some ⟨w.heap.size, 0, none⟩)) = .ok (.value (.agg (kc k))) (w.alloc (.cells (kc k) 75)) :=
  ldBm_of (heap_alloc_last w _)

theorem stBm_of {w : World} {b : Nat} {k k' : Nat → Nat} {t : TypeId} (h : w.heap[b]? = some (.cells (kc k) t (0, 0))) :
    stBm w (.pointer (some ⟨b, 0, none⟩)) (.agg (kc k')) = .ok .skip (w.setRow b (kc k')) := by
  unfold stBm
  simp only [Instr.storeAt, Instr.sureAddr, Sem.run_bind, Sem.run_pure, Result.andThen_ok]
  rw [run_storeVar_row (P := Tryz.prog) w b t 75 (kc k) (kc k') h (by rw [kc_size]; exact infoBm) (by rw [kc_size, kc_size]) (oneCell_key k')]
  rfl

@[go_sem] theorem stBm_new (w : World) (k k' : Nat → Nat) : stBm (w.alloc (.cells (kc k) 75)) (.pointer (some ⟨w.heap.size, 0, none⟩)) (.agg (kc k')) = .ok .skip (w.alloc (.cells (kc k') 75)) := by
  rw [stBm_of (heap_alloc_last w _), World.setRow_alloc_new]
@[go_sem] theorem stBm_two (w : World) (o : Obj) (k k' : Nat → Nat) : stBm ((w.alloc o).alloc (.cells (kc k) 75)) (.pointer (some ⟨w.heap.size + 1, 0, none⟩)) (.agg (kc k')) = .ok .skip ((w.alloc o).alloc (.cells (kc k') 75)) := by
  have := stBm_new (w.alloc o) k k'
  rwa [show (w.alloc o).heap.size = w.heap.size + 1 by simp] at this

@[go_sem] theorem stBm_two_old (w : World) (o : Obj) (k k' : Nat → Nat) : stBm ((w.alloc (.cells (kc k) 75)).alloc o) (.pointer (some ⟨w.heap.size, 0, none⟩)) (.agg (kc k')) = .ok .skip ((w.alloc (.cells (kc k') 75)).alloc o) := by
  rw [stBm_of (heap_alloc2_old w _ _), setRow_two]

@[go_sem] theorem ldBm_new_d (w : World) (k : Nat → Nat) (n : Nat) : ldBm ((w.alloc (.cells (kc k) 75)).drewN n) (.pointer (some ⟨w.heap.size, 0, none⟩)) = .ok (.value (.agg (kc k))) ((w.alloc (.cells (kc k) 75)).drewN n) :=
  ldBm_of (heap_alloc_last w _)
@[go_sem] theorem stBm_two_d (w : World) (o : Obj) (k k' : Nat → Nat) (n : Nat) : stBm (((w.alloc o).alloc (.cells (kc k) 75)).drewN n) (.pointer (some ⟨w.heap.size + 1, 0, none⟩)) (.agg (kc k')) = .ok .skip (((w.alloc o).alloc (.cells (kc k') 75)).drewN n) := by
  rw [stBm_of (w := ((w.alloc o).alloc (.cells (kc k) 75)).drewN n) (heap_alloc2_new w _ _)]
  have := World.setRow_alloc_new (w.alloc o) (kc k) (kc k') 75
  rw [show (w.alloc o).heap.size = w.heap.size + 1 by simp] at this
  rw [← this]
  rfl

def BmAt (w : World) (b : Nat) (k : Nat → Nat) : Prop := w.heap[b]? = some (.cells (kc k) 75 (0, 0))
theorem BmAt.cell {w : World} {b : Nat} {k : Nat → Nat} (h : BmAt w b k) {j : Nat} (hj : j < 32) : w.cell? ⟨b, j, none⟩ = some (.int .u8 (k j)) := by
  rw [cell_of_row _ _ _ _ _ _ h]; exact kc_at k _ hj
theorem BmAt.free {w : World} {b : Nat} {k : Nat → Nat} (h : BmAt w b k) (j : Nat) : w.frozen? ⟨b, j, none⟩ = false := frozen_of_row w b j _ _ h
theorem BmAt.ld {w : World} {b : Nat} {k : Nat → Nat} (h : BmAt w b k) : ldBm w (.pointer (some ⟨b, 0, none⟩)) = .ok (.value (.agg (kc k))) w := ldBm_of h
theorem BmAt.st {w : World} {b : Nat} {k : Nat → Nat} (h : BmAt w b k) (k' : Nat → Nat) : stBm w (.pointer (some ⟨b, 0, none⟩)) (.agg (kc k')) = .ok .skip (w.setRow b (kc k')) := stBm_of h
theorem BmAt.set {w : World} {b : Nat} {k : Nat → Nat} (h : BmAt w b k) (j x : Nat) : BmAt (w.setCell ⟨b, j, none⟩ (.int .u8 x)) b (upd k j x) := by
  have := heap_setCell_same w b j (kc k) 75 (.int .u8 x) h
  rwa [kc_set] at this
theorem BmAt.set_other {w : World} {b c : Nat} {k : Nat → Nat} (h : BmAt w b k) (hne : b ≠ c) (j : Nat) (v : Value) : BmAt (w.setCell ⟨c, j, none⟩ v) b k := by
  unfold BmAt
  rw [heap_setCell_other _ _ _ _ hne]
  exact h
theorem BmAt.row {w : World} {b : Nat} {k : Nat → Nat} (h : BmAt w b k) (k' : Nat → Nat) : BmAt (w.setRow b (kc k')) b k' := setRow_heap w b _ _ 75 _ h
theorem BmAt.row_other {w : World} {b c : Nat} {k : Nat → Nat} (h : BmAt w b k) (hne : b ≠ c) (x : Array Value) : BmAt (w.setRow c x) b k := by
  unfold BmAt
  rw [setRow_other _ _ _ _ hne]
  exact h
theorem BmAt.drewN {w : World} {b : Nat} {k : Nat → Nat} (h : BmAt w b k) (n : Nat) : BmAt (w.drewN n) b k := h
theorem BmAt.lt {w : World} {b : Nat} {k : Nat → Nat} (h : BmAt w b k) : b < w.heap.size := by
  rcases Nat.lt_or_ge b w.heap.size with h' | h'
  · exact h'
  · unfold BmAt at h; rw [Array.getElem?_eq_none h'] at h; cases h
theorem BmAt.below {w w' : World} {b B : Nat} {k : Nat → Nat} (h : BmAt w b k) (hb : Below B w w') (hB : b < B) : BmAt w' b k := by
  unfold BmAt
  rw [hb.block b hB]
  exact h
theorem BmAt.congr {w : World} {b : Nat} {k k' : Nat → Nat} (h : BmAt w b k) (e : ∀ j, j < 32 → k j = k' j) : BmAt w b k' := by
  unfold BmAt
  rw [← kc_congr e]
  exact h
theorem BmAt.one (w : World) (k : Nat → Nat) : BmAt (w.alloc (.cells (kc k) 75)) w.heap.size k := heap_alloc_last w _
theorem BmAt.two (w : World) (k : Nat → Nat) (o : Obj) : BmAt ((w.alloc (.cells (kc k) 75)).alloc o) w.heap.size k := heap_alloc2_old w _ _
theorem BmAt.two' (w : World) (k : Nat → Nat) (o : Obj) : BmAt ((w.alloc o).alloc (.cells (kc k) 75)) (w.heap.size + 1) k := heap_alloc2_new w _ _
@[go_sem ↓] theorem zeroBm (w : World) : (zeroValue 75).run Tryz.prog w = .ok (.agg (kc kz)) w := by
  rw [Tryz.zeroValue75]; rfl

/-- Cells of keys in the blocks that were just made. -/
theorem Bm_cell (w : World) (k : Nat → Nat) (j : Nat) (h : j < 32) : ((w.alloc (.cells (kc k) 75)).cell? ⟨w.heap.size, j, none⟩) = some (.int .u8 (k j)) := by
  rw [cell_of_row _ _ _ _ _ _ (heap_alloc_last w _)]; exact kc_at k _ h
theorem Bm_cell2 (w : World) (o : Obj) (k : Nat → Nat) (j : Nat) (h : j < 32) : (((w.alloc (.cells (kc k) 75)).alloc o).cell? ⟨w.heap.size, j, none⟩) = some (.int .u8 (k j)) := by
  rw [cell_of_row _ _ _ _ _ _ (heap_alloc2_old w _ _)]; exact kc_at k _ h
theorem Bm_cell1 (w : World) (o : Obj) (k : Nat → Nat) (j : Nat) (h : j < 32) : (((w.alloc o).alloc (.cells (kc k) 75)).cell? ⟨w.heap.size + 1, j, none⟩) = some (.int .u8 (k j)) := by
  rw [cell_of_row _ _ _ _ _ _ (heap_alloc2_new w _ _)]; exact kc_at k _ h
@[go_sem] theorem ldBm_two (w : World) (k : Nat → Nat) (o : Obj) : ldBm ((w.alloc (.cells (kc k) 75)).alloc o) (.pointer (some ⟨w.heap.size, 0, none⟩)) = .ok (.value (.agg (kc k))) ((w.alloc (.cells (kc k) 75)).alloc o) :=
  ldBm_of (heap_alloc2_old w _ _)
@[go_sem] theorem ldBm_two' (w : World) (k : Nat → Nat) (o : Obj) : ldBm ((w.alloc o).alloc (.cells (kc k) 75)) (.pointer (some ⟨w.heap.size + 1, 0, none⟩)) = .ok (.value (.agg (kc k))) ((w.alloc o).alloc (.cells (kc k) 75)) :=
  ldBm_of (heap_alloc2_new w _ _)

@[go_sem] theorem ldBm_two_d (w : World) (k : Nat → Nat) (o : Obj) (n : Nat) : ldBm (((w.alloc (.cells (kc k) 75)).alloc o).drewN n) (.pointer (some ⟨w.heap.size, 0, none⟩)) = .ok (.value (.agg (kc k))) (((w.alloc (.cells (kc k) 75)).alloc o).drewN n) :=
  ldBm_of (heap_alloc2_old w _ _)
@[go_sem] theorem ldBm_two_d' (w : World) (k : Nat → Nat) (o : Obj) (n : Nat) : ldBm (((w.alloc o).alloc (.cells (kc k) 75)).drewN n) (.pointer (some ⟨w.heap.size + 1, 0, none⟩)) = .ok (.value (.agg (kc k))) (((w.alloc o).alloc (.cells (kc k) 75)).drewN n) :=
  ldBm_of (heap_alloc2_new w _ _)

theorem Later.ldBm_one {w : World} {k : Nat → Nat} (x : Later (w.alloc (.cells (kc k) 75))) : ldBm x.w (.pointer (some ⟨w.heap.size, 0, none⟩)) = .ok (.value (.agg (kc k))) x.w :=
  ldBm_of (x.block (heap_alloc_last w _))
theorem Later.ldBm_two {w : World} {k : Nat → Nat} {o : Obj} (x : Later ((w.alloc (.cells (kc k) 75)).alloc o)) : ldBm x.w (.pointer (some ⟨w.heap.size, 0, none⟩)) = .ok (.value (.agg (kc k))) x.w :=
  ldBm_of (x.block (heap_alloc2_old w _ _))
theorem Later.ldBm_two' {w : World} {k : Nat → Nat} {o : Obj} (x : Later ((w.alloc o).alloc (.cells (kc k) 75))) : ldBm x.w (.pointer (some ⟨w.heap.size + 1, 0, none⟩)) = .ok (.value (.agg (kc k))) x.w :=
  ldBm_of (x.block (heap_alloc2_new w _ _))

set_option maxRecDepth 100000 in
@[go_sem] theorem run_equalIn_Bm (w : World) (a b : Nat → Nat) : (Op.equalIn 10000 75 (.agg (kc a)) (.agg (kc b))).run Tryz.prog w = .ok (keq a b) w := by
  obtain ⟨i, hi⟩ : ∃ i, Tryz.prog.info? 5 = some i := ⟨_, rfl⟩
  rw [show (10000 : Nat) = 9999 + 1 from rfl, run_equalIn_array w 9999 (kc a) (kc b) Tryz.underlying75 hi]
  have : Tryz.prog.cellsOf 5 = 1 := by kernel_rfl
  rw [this]
  exact run_eqItems_keys w 9998 a b _ (by simp)
/-! ### Ar -/
theorem infoAr : (Tryz.prog.info? 23).map (·.size) = some 32 := by kernel_rfl

noncomputable def ldAr (w : World) (v : Value) : Result Next := Sem.run Tryz.prog (do pure (.value (← Instr.loadAt 23 v))) w
noncomputable def stAr (w : World) (p v : Value) : Result Next := Sem.run Tryz.prog (do Instr.storeAt 23 p v; pure .skip) w

@[go_sem ↓] theorem execOp_load_Ar (ρ : Operand → Value) (dst : Option Tmp) (x : Operand) (type : TypeId) (pos : String) (after : Array Edge) (guard : Option (Nat × Bool)) (w : World) :
    Sem.run Tryz.prog (execOp ρ { dst, op := .load 23 x, type, pos, after, guard }) w = ldAr w (ρ x) := rfl
@[go_sem ↓] theorem execOp_store_Ar (ρ : Operand → Value) (dst : Option Tmp) (x y : Operand) (type : TypeId) (pos : String) (after : Array Edge) (guard : Option (Nat × Bool)) (w : World) :
    Sem.run Tryz.prog (execOp ρ { dst, op := .store 23 x y, type, pos, after, guard }) w = stAr w (ρ x) (ρ y) := rfl

theorem ldAr_of {w : World} {b : Nat} {k : Nat → Nat} {t : TypeId} {fr : Nat × Nat} (h : w.heap[b]? = some (.cells (kc k) t fr)) :
    ldAr w (.pointer (some ⟨b, 0, none⟩)) = .ok (.value (.agg (kc k))) w := by
  unfold ldAr
  simp only [Instr.loadAt, Instr.sureAddr, Sem.run_bind, Sem.run_pure, Result.andThen_ok]
  rw [run_loadVar_row (P := Tryz.prog) w b t 23 (kc k) fr (.array 32 5) h Tryz.underlying23 rfl (by rw [kc_size]; exact infoAr)]
  rfl
@[go_sem] theorem ldAr_new (w : World) (k : Nat → Nat) : ldAr (w.alloc (.cells (kc k) 23)) (.pointer (some ⟨w.heap.size, 0, none⟩)) = .ok (.value (.agg (kc k))) (w.alloc (.cells (kc k) 23)) :=
  ldAr_of (heap_alloc_last w _)

theorem stAr_of {w : World} {b : Nat} {k k' : Nat → Nat} {t : TypeId} (h : w.heap[b]? = some (.cells (kc k) t (0, 0))) :
    stAr w (.pointer (some ⟨b, 0, none⟩)) (.agg (kc k')) = .ok .skip (w.setRow b (kc k')) := by
  unfold stAr
  simp only [Instr.storeAt, Instr.sureAddr, Sem.run_bind, Sem.run_pure, Result.andThen_ok]
  rw [run_storeVar_row (P := Tryz.prog) w b t 23 (kc k) (kc k') h (by rw [kc_size]; exact infoAr) (by rw [kc_size, kc_size]) (oneCell_key k')]
  rfl

@[go_sem] theorem stAr_new (w : World) (k k' : Nat → Nat) : stAr (w.alloc (.cells (kc k) 23)) (.pointer (some ⟨w.heap.size, 0, none⟩)) (.agg (kc k')) = .ok .skip (w.alloc (.cells (kc k') 23)) := by
  rw [stAr_of (heap_alloc_last w _), World.setRow_alloc_new]
@[go_sem] theorem stAr_two (w : World) (o : Obj) (k k' : Nat → Nat) : stAr ((w.alloc o).alloc (.cells (kc k) 23)) (.pointer (some ⟨w.heap.size + 1, 0, none⟩)) (.agg (kc k')) = .ok .skip ((w.alloc o).alloc (.cells (kc k') 23)) := by
  have := stAr_new (w.alloc o) k k'
  rwa [show (w.alloc o).heap.size = w.heap.size + 1 by simp] at this

@[go_sem] theorem stAr_two_old (w : World) (o : Obj) (k k' : Nat → Nat) : stAr ((w.alloc (.cells (kc k) 23)).alloc o) (.pointer (some ⟨w.heap.size, 0, none⟩)) (.agg (kc k')) = .ok .skip ((w.alloc (.cells (kc k') 23)).alloc o) := by
  rw [stAr_of (heap_alloc2_old w _ _), setRow_two]

@[go_sem] theorem ldAr_new_d (w : World) (k : Nat → Nat) (n : Nat) : ldAr ((w.alloc (.cells (kc k) 23)).drewN n) (.pointer (some ⟨w.heap.size, 0, none⟩)) = .ok (.value (.agg (kc k))) ((w.alloc (.cells (kc k) 23)).drewN n) :=
  ldAr_of (heap_alloc_last w _)
@[go_sem] theorem stAr_two_d (w : World) (o : Obj) (k k' : Nat → Nat) (n : Nat) : stAr (((w.alloc o).alloc (.cells (kc k) 23)).drewN n) (.pointer (some ⟨w.heap.size + 1, 0, none⟩)) (.agg (kc k')) = .ok .skip (((w.alloc o).alloc (.cells (kc k') 23)).drewN n) := by
  rw [stAr_of (w := ((w.alloc o).alloc (.cells (kc k) 23)).drewN n) (heap_alloc2_new w _ _)]
  have := World.setRow_alloc_new (w.alloc o) (kc k) (kc k') 23
  rw [show (w.alloc o).heap.size = w.heap.size + 1 by simp] at this
  rw [← this]
  rfl

def ArAt (w : World) (b : Nat) (k : Nat → Nat) : Prop := w.heap[b]? = some (.cells (kc k) 23 (0, 0))
theorem ArAt.cell {w : World} {b : Nat} {k : Nat → Nat} (h : ArAt w b k) {j : Nat} (hj : j < 32) : w.cell? ⟨b, j, none⟩ = some (.int .u8 (k j)) := by
  rw [cell_of_row _ _ _ _ _ _ h]; exact kc_at k _ hj
theorem ArAt.free {w : World} {b : Nat} {k : Nat → Nat} (h : ArAt w b k) (j : Nat) : w.frozen? ⟨b, j, none⟩ = false := frozen_of_row w b j _ _ h
theorem ArAt.ld {w : World} {b : Nat} {k : Nat → Nat} (h : ArAt w b k) : ldAr w (.pointer (some ⟨b, 0, none⟩)) = .ok (.value (.agg (kc k))) w := ldAr_of h
theorem ArAt.st {w : World} {b : Nat} {k : Nat → Nat} (h : ArAt w b k) (k' : Nat → Nat) : stAr w (.pointer (some ⟨b, 0, none⟩)) (.agg (kc k')) = .ok .skip (w.setRow b (kc k')) := stAr_of h
theorem ArAt.set {w : World} {b : Nat} {k : Nat → Nat} (h : ArAt w b k) (j x : Nat) : ArAt (w.setCell ⟨b, j, none⟩ (.int .u8 x)) b (upd k j x) := by
  have := heap_setCell_same w b j (kc k) 23 (.int .u8 x) h
  rwa [kc_set] at this
theorem ArAt.set_other {w : World} {b c : Nat} {k : Nat → Nat} (h : ArAt w b k) (hne : b ≠ c) (j : Nat) (v : Value) : ArAt (w.setCell ⟨c, j, none⟩ v) b k := by
  unfold ArAt
  rw [heap_setCell_other _ _ _ _ hne]
  exact h
theorem ArAt.row {w : World} {b : Nat} {k : Nat → Nat} (h : ArAt w b k) (k' : Nat → Nat) : ArAt (w.setRow b (kc k')) b k' := setRow_heap w b _ _ 23 _ h
theorem ArAt.row_other {w : World} {b c : Nat} {k : Nat → Nat} (h : ArAt w b k) (hne : b ≠ c) (x : Array Value) : ArAt (w.setRow c x) b k := by
  unfold ArAt
  rw [setRow_other _ _ _ _ hne]
  exact h
theorem ArAt.drewN {w : World} {b : Nat} {k : Nat → Nat} (h : ArAt w b k) (n : Nat) : ArAt (w.drewN n) b k := h
theorem ArAt.lt {w : World} {b : Nat} {k : Nat → Nat} (h : ArAt w b k) : b < w.heap.size := by
  rcases Nat.lt_or_ge b w.heap.size with h' | h'
  · exact h'
  · unfold ArAt at h; rw [Array.getElem?_eq_none h'] at h; cases h
theorem ArAt.below {w w' : World} {b B : Nat} {k : Nat → Nat} (h : ArAt w b k) (hb : Below B w w') (hB : b < B) : ArAt w' b k := by
  unfold ArAt
  rw [hb.block b hB]
  exact h
theorem ArAt.congr {w : World} {b : Nat} {k k' : Nat → Nat} (h : ArAt w b k) (e : ∀ j, j < 32 → k j = k' j) : ArAt w b k' := by
  unfold ArAt
  rw [← kc_congr e]
  exact h
theorem ArAt.one (w : World) (k : Nat → Nat) : ArAt (w.alloc (.cells (kc k) 23)) w.heap.size k := heap_alloc_last w _
theorem ArAt.two (w : World) (k : Nat → Nat) (o : Obj) : ArAt ((w.alloc (.cells (kc k) 23)).alloc o) w.heap.size k := heap_alloc2_old w _ _
theorem ArAt.two' (w : World) (k : Nat → Nat) (o : Obj) : ArAt ((w.alloc o).alloc (.cells (kc k) 23)) (w.heap.size + 1) k := heap_alloc2_new w _ _
@[go_sem ↓] theorem zeroAr (w : World) : (zeroValue 23).run Tryz.prog w = .ok (.agg (kc kz)) w := by
  rw [Tryz.zeroValue23]; rfl

/-- Cells of keys in the blocks that were just made. -/
theorem Ar_cell (w : World) (k : Nat → Nat) (j : Nat) (h : j < 32) : ((w.alloc (.cells (kc k) 23)).cell? ⟨w.heap.size, j, none⟩) = some (.int .u8 (k j)) := by
  rw [cell_of_row _ _ _ _ _ _ (heap_alloc_last w _)]; exact kc_at k _ h
theorem Ar_cell2 (w : World) (o : Obj) (k : Nat → Nat) (j : Nat) (h : j < 32) : (((w.alloc (.cells (kc k) 23)).alloc o).cell? ⟨w.heap.size, j, none⟩) = some (.int .u8 (k j)) := by
  rw [cell_of_row _ _ _ _ _ _ (heap_alloc2_old w _ _)]; exact kc_at k _ h
theorem Ar_cell1 (w : World) (o : Obj) (k : Nat → Nat) (j : Nat) (h : j < 32) : (((w.alloc o).alloc (.cells (kc k) 23)).cell? ⟨w.heap.size + 1, j, none⟩) = some (.int .u8 (k j)) := by
  rw [cell_of_row _ _ _ _ _ _ (heap_alloc2_new w _ _)]; exact kc_at k _ h
@[go_sem] theorem ldAr_two (w : World) (k : Nat → Nat) (o : Obj) : ldAr ((w.alloc (.cells (kc k) 23)).alloc o) (.pointer (some ⟨w.heap.size, 0, none⟩)) = .ok (.value (.agg (kc k))) ((w.alloc (.cells (kc k) 23)).alloc o) :=
  ldAr_of (heap_alloc2_old w _ _)
@[go_sem] theorem ldAr_two' (w : World) (k : Nat → Nat) (o : Obj) : ldAr ((w.alloc o).alloc (.cells (kc k) 23)) (.pointer (some ⟨w.heap.size + 1, 0, none⟩)) = .ok (.value (.agg (kc k))) ((w.alloc o).alloc (.cells (kc k) 23)) :=
  ldAr_of (heap_alloc2_new w _ _)

@[go_sem] theorem ldAr_two_d (w : World) (k : Nat → Nat) (o : Obj) (n : Nat) : ldAr (((w.alloc (.cells (kc k) 23)).alloc o).drewN n) (.pointer (some ⟨w.heap.size, 0, none⟩)) = .ok (.value (.agg (kc k))) (((w.alloc (.cells (kc k) 23)).alloc o).drewN n) :=
  ldAr_of (heap_alloc2_old w _ _)
@[go_sem] theorem ldAr_two_d' (w : World) (k : Nat → Nat) (o : Obj) (n : Nat) : ldAr (((w.alloc o).alloc (.cells (kc k) 23)).drewN n) (.pointer (some ⟨w.heap.size + 1, 0, none⟩)) = .ok (.value (.agg (kc k))) (((w.alloc o).alloc (.cells (kc k) 23)).drewN n) :=
  ldAr_of (heap_alloc2_new w _ _)

theorem Later.ldAr_one {w : World} {k : Nat → Nat} (x : Later (w.alloc (.cells (kc k) 23))) : ldAr x.w (.pointer (some ⟨w.heap.size, 0, none⟩)) = .ok (.value (.agg (kc k))) x.w :=
  ldAr_of (x.block (heap_alloc_last w _))
theorem Later.ldAr_two {w : World} {k : Nat → Nat} {o : Obj} (x : Later ((w.alloc (.cells (kc k) 23)).alloc o)) : ldAr x.w (.pointer (some ⟨w.heap.size, 0, none⟩)) = .ok (.value (.agg (kc k))) x.w :=
  ldAr_of (x.block (heap_alloc2_old w _ _))
theorem Later.ldAr_two' {w : World} {k : Nat → Nat} {o : Obj} (x : Later ((w.alloc o).alloc (.cells (kc k) 23))) : ldAr x.w (.pointer (some ⟨w.heap.size + 1, 0, none⟩)) = .ok (.value (.agg (kc k))) x.w :=
  ldAr_of (x.block (heap_alloc2_new w _ _))

set_option maxRecDepth 100000 in
@[go_sem] theorem run_equalIn_Ar (w : World) (a b : Nat → Nat) : (Op.equalIn 10000 23 (.agg (kc a)) (.agg (kc b))).run Tryz.prog w = .ok (keq a b) w := by
  obtain ⟨i, hi⟩ : ∃ i, Tryz.prog.info? 5 = some i := ⟨_, rfl⟩
  rw [show (10000 : Nat) = 9999 + 1 from rfl, run_equalIn_array w 9999 (kc a) (kc b) Tryz.underlying23 hi]
  have : Tryz.prog.cellsOf 5 = 1 := by kernel_rfl
  rw [this]
  exact run_eqItems_keys w 9998 a b _ (by simp)
end Go.Proofs.YtbkokcfmndiedaaGreatDoor.Bt

/- Sets of depths as functions: with and without a depth, of a list, the list of a set, the greatest depth. Nothing of the program. -/
namespace Go.Proofs.YtbkokcfmndiedaaGreatDoor.Bt
open Go.RowKit

def hasK (k : Nat → Nat) (i : Int) : Bool := bitI k i == 1
def insK (k : Nat → Nat) (i : Int) : Nat → Nat := if hasK k i = true then k else flipI k i
def delK (k : Nat → Nat) (i : Int) : Nat → Nat := if hasK k i = true then flipI k i else k
def ofFrom (k : Nat → Nat) (l : List Int) : Nat → Nat := l.foldl insK k
def ofK (l : List Int) : Nat → Nat := ofFrom kz l
/-- The depths below n that are in the set, in ascending order. -/
def setZ (k : Nat → Nat) : Nat → List Int
  | 0 => []
  | n + 1 => if bit k n = 1 then setZ k n ++ [(n : Int)] else setZ k n
/-- The greatest depth below n that is in the set, or -1. -/
def lastTo (k : Nat → Nat) : Nat → Int
  | 0 => -1
  | n + 1 => if bit k n = 1 then (n : Int) else lastTo k n

theorem kz_byt : Byt kz := fun _ => by unfold kz; omega
theorem bit_kz (j : Nat) : bit kz j = 0 := by unfold bit kz; simp
theorem bitI_in (k : Nat → Nat) (i : Nat) (h : i < 256) : bitI k (i : Int) = (bit k i : Int) := by
  unfold bitI; rw [if_pos (by omega), Int.toNat_natCast]
theorem bitI_out (k : Nat → Nat) (i : Int) (h : i < 0 ∨ 256 ≤ i) : bitI k i = -1 := by
  unfold bitI; rw [if_neg (by omega)]
theorem hasK_in (k : Nat → Nat) (i : Nat) (h : i < 256) : hasK k (i : Int) = decide (bit k i = 1) := by
  unfold hasK; rw [bitI_in k i h]
  have := bit_lt k i
  by_cases e : bit k i = 1
  · rw [e]; rfl
  · rw [show bit k i = 0 by omega]; rfl
theorem hasK_out (k : Nat → Nat) (i : Int) (h : i < 0 ∨ 256 ≤ i) : hasK k i = false := by unfold hasK; rw [bitI_out k i h]; rfl
theorem flipI_out (k : Nat → Nat) (i : Int) (h : i < 0 ∨ 256 ≤ i) : flipI k i = k := by unfold flipI; rw [if_neg (by omega)]
theorem flipI_in (k : Nat → Nat) (i : Nat) (h : i < 256) : flipI k (i : Int) = flip k i := by unfold flipI; rw [if_pos (by omega), Int.toNat_natCast]
theorem insK_byt {k : Nat → Nat} (h : Byt k) (i : Int) : Byt (insK k i) := by
  unfold insK; split
  · exact h
  · exact flipI_byt h i
theorem delK_byt {k : Nat → Nat} (h : Byt k) (i : Int) : Byt (delK k i) := by
  unfold delK; split
  · exact flipI_byt h i
  · exact h
theorem ofFrom_byt : ∀ (l : List Int) {k : Nat → Nat}, Byt k → Byt (ofFrom k l)
  | [], _, h => h
  | x :: l, _, h => ofFrom_byt l (insK_byt h x)
theorem ofK_byt (l : List Int) : Byt (ofK l) := ofFrom_byt l kz_byt
theorem ofFrom_snoc (k : Nat → Nat) (l : List Int) (x : Int) : ofFrom k (l ++ [x]) = insK (ofFrom k l) x := by unfold ofFrom; rw [List.foldl_append]; rfl
theorem insK_out (k : Nat → Nat) (i : Int) (h : i < 0 ∨ 256 ≤ i) : insK k i = k := by unfold insK; rw [hasK_out k i h, if_neg (by simp), flipI_out k i h]
theorem delK_out (k : Nat → Nat) (i : Int) (h : i < 0 ∨ 256 ≤ i) : delK k i = k := by unfold delK; rw [hasK_out k i h, if_neg (by simp)]
theorem insK_yes (k : Nat → Nat) (i : Nat) (h : i < 256) (hb : bit k i = 1) : insK k i = k := by unfold insK; rw [hasK_in k i h, if_pos (by simpa using hb)]
theorem insK_no (k : Nat → Nat) (i : Nat) (h : i < 256) (hb : bit k i = 0) : insK k i = flip k i := by unfold insK; rw [hasK_in k i h, if_neg (by simp [hb]), flipI_in k i h]
theorem delK_yes (k : Nat → Nat) (i : Nat) (h : i < 256) (hb : bit k i = 1) : delK k i = flip k i := by unfold delK; rw [hasK_in k i h, if_pos (by simpa using hb), flipI_in k i h]
theorem delK_no (k : Nat → Nat) (i : Nat) (h : i < 256) (hb : bit k i = 0) : delK k i = k := by unfold delK; rw [hasK_in k i h, if_neg (by simp [hb])]
theorem bit_01 (k : Nat → Nat) (i : Nat) : bit k i = 0 ∨ bit k i = 1 := by have := bit_lt k i; omega
theorem nat_of (i : Int) : (i < 0 ∨ 256 ≤ i) ∨ ∃ n : Nat, i = n ∧ n < 256 := by
  by_cases h : i < 0 ∨ 256 ≤ i
  · exact .inl h
  · exact .inr ⟨i.toNat, by omega, by omega⟩
theorem bit_insK (k : Nat → Nat) (i : Int) (j : Nat) (hj : j < 256) : bit (insK k i) j = if (j : Int) = i then 1 else bit k j := by
  rcases nat_of i with h | ⟨n, rfl, h⟩
  · rw [insK_out k i h, if_neg (by omega)]
  · rcases bit_01 k n with hb | hb
    · rw [insK_no k n h hb, bit_flip, hb]
      by_cases e : j = n
      · subst e; simp
      · rw [if_neg e, if_neg (by omega)]
    · rw [insK_yes k n h hb]
      by_cases e : j = n
      · subst e; simp [hb]
      · rw [if_neg (by omega)]
theorem bit_delK (k : Nat → Nat) (i : Int) (j : Nat) (hj : j < 256) : bit (delK k i) j = if (j : Int) = i then 0 else bit k j := by
  rcases nat_of i with h | ⟨n, rfl, h⟩
  · rw [delK_out k i h, if_neg (by omega)]
  · rcases bit_01 k n with hb | hb
    · rw [delK_no k n h hb]
      by_cases e : j = n
      · subst e; simp [hb]
      · rw [if_neg (by omega)]
    · rw [delK_yes k n h hb, bit_flip, hb]
      by_cases e : j = n
      · subst e; simp
      · rw [if_neg e, if_neg (by omega)]
theorem bit_ofFrom (j : Nat) (hj : j < 256) : ∀ (l : List Int) (k : Nat → Nat), bit (ofFrom k l) j = if (j : Int) ∈ l then 1 else bit k j
  | [], k => by simp [ofFrom]
  | x :: l, k => by
    show bit (ofFrom (insK k x) l) j = _
    rw [bit_ofFrom j hj l, bit_insK k x j hj]
    by_cases h : (j : Int) ∈ l
    · rw [if_pos h, if_pos (by simp [h])]
    · rw [if_neg h]
      by_cases e : (j : Int) = x
      · rw [if_pos e, if_pos (by simp [e])]
      · rw [if_neg e, if_neg (by simp [h, e])]
theorem bit_ofK (l : List Int) (j : Nat) (hj : j < 256) : bit (ofK l) j = if (j : Int) ∈ l then 1 else 0 := by
  unfold ofK; rw [bit_ofFrom j hj, bit_kz]

/-! ### The list -/
theorem setZ_len (k : Nat → Nat) : ∀ n, (setZ k n).length ≤ n
  | 0 => Nat.le_refl _
  | n + 1 => by
    have := setZ_len k n
    unfold setZ
    split
    · simp; omega
    · omega
theorem mem_setZ (k : Nat → Nat) (x : Int) : ∀ n, x ∈ setZ k n ↔ ∃ j : Nat, j < n ∧ bit k j = 1 ∧ x = j
  | 0 => by simp [setZ]
  | n + 1 => by
    have ih := mem_setZ k x n
    unfold setZ
    split
    · rename_i h
      rw [List.mem_append, ih]
      constructor
      · rintro (⟨j, h1, h2, h3⟩ | h1)
        · exact ⟨j, by omega, h2, h3⟩
        · exact ⟨n, by omega, h, by simpa using h1⟩
      · rintro ⟨j, h1, h2, h3⟩
        by_cases e : j = n
        · subst e; exact .inr (by simpa using h3)
        · exact .inl ⟨j, by omega, h2, h3⟩
    · rename_i h
      rw [ih]
      constructor
      · rintro ⟨j, h1, h2, h3⟩; exact ⟨j, by omega, h2, h3⟩
      · rintro ⟨j, h1, h2, h3⟩
        by_cases e : j = n
        · subst e; exact absurd h2 h
        · exact ⟨j, by omega, h2, h3⟩
theorem setZ_congr {a b : Nat → Nat} : ∀ n, (∀ j, j < n → bit a j = bit b j) → setZ a n = setZ b n
  | 0, _ => rfl
  | n + 1, h => by
    unfold setZ
    rw [h n (by omega), setZ_congr n fun j hj => h j (by omega)]
theorem setZ_nodup (k : Nat → Nat) : ∀ n, (setZ k n).Nodup
  | 0 => List.nodup_nil
  | n + 1 => by
    unfold setZ
    split
    · refine List.nodup_append.2 ⟨setZ_nodup k n, by simp, fun a ha b hb => ?_⟩
      obtain ⟨j, h1, _, rfl⟩ := (mem_setZ k a n).1 ha
      have : b = n := by simpa using hb
      omega
    · exact setZ_nodup k n
theorem setZ_range (k : Nat → Nat) (n : Nat) {x : Int} (h : x ∈ setZ k n) : 0 ≤ x ∧ x < n := by
  obtain ⟨j, h1, _, rfl⟩ := (mem_setZ k x n).1 h
  omega
theorem ofK_setZ {k : Nat → Nat} (hk : Byt k) : ∀ j, j < 32 → ofK (setZ k 256) j = k j :=
  key_ext (ofK_byt _) hk fun i hi => by
    rw [bit_ofK _ i hi]
    rcases bit_01 k i with h | h
    · rw [if_neg, h]
      intro hm
      obtain ⟨j, _, h2, h3⟩ := (mem_setZ k _ 256).1 hm
      rw [show i = j by omega] at h; omega
    · rw [if_pos ((mem_setZ k _ 256).2 ⟨i, hi, h, rfl⟩), h]
theorem ofK_congr {l m : List Int} (h : ∀ x, x ∈ l ↔ x ∈ m) : (∀ i, i < 256 → bit (ofK l) i = bit (ofK m) i) ∧ ∀ j, j < 32 → ofK l j = ofK m j := by
  have hb : ∀ i, i < 256 → bit (ofK l) i = bit (ofK m) i := fun i hi => by rw [bit_ofK _ i hi, bit_ofK _ i hi]; simp only [h]
  exact ⟨hb, key_ext (ofK_byt _) (ofK_byt _) hb⟩

/-! ### The greatest depth -/
theorem lastTo_congr {a b : Nat → Nat} : ∀ n, (∀ j, j < n → bit a j = bit b j) → lastTo a n = lastTo b n
  | 0, _ => rfl
  | n + 1, h => by
    unfold lastTo
    rw [h n (by omega), lastTo_congr n fun j hj => h j (by omega)]
theorem lastTo_range (k : Nat → Nat) : ∀ n, -1 ≤ lastTo k n ∧ lastTo k n < n
  | 0 => by simp [lastTo]
  | n + 1 => by
    have := lastTo_range k n
    unfold lastTo
    split <;> omega
theorem lastTo_none {k : Nat → Nat} : ∀ n, lastTo k n = -1 → ∀ j, j < n → bit k j = 0
  | 0, _, j, hj => by omega
  | n + 1, h, j, hj => by
    unfold lastTo at h
    split at h
    · omega
    · rename_i hb
      by_cases e : j = n
      · subst e; have := bit_lt k j; omega
      · exact lastTo_none n h j (by omega)
theorem lastTo_some {k : Nat → Nat} (hk : Byt k) (h : keq k kz = false) : lastTo k 256 ≠ -1 := fun hl => by
  have h0 := lastTo_none 256 hl
  have : keq k kz = true := (keq_iff _ _).2 (key_ext hk kz_byt fun i hi => by rw [h0 i hi, bit_kz])
  rw [this] at h; cases h
theorem lastTo_kz {k : Nat → Nat} (h : keq k kz = true) : lastTo k 256 = -1 := by
  have h1 := (keq_iff _ _).1 h
  have : ∀ n, n ≤ 256 → lastTo k n = -1 := fun n => by
    induction n with
    | zero => intro _; rfl
    | succ n ih =>
      intro hn
      unfold lastTo
      have : bit k n = 0 := by
        unfold bit
        rw [h1 _ (by omega)]; simp [kz]
      rw [if_neg (by omega)]
      exact ih (by omega)
  exact this 256 (Nat.le_refl _)
theorem lastTo_or {a b c : Nat → Nat} : ∀ n, (∀ j, j < n → (bit c j = 1 ↔ bit a j = 1 ∨ bit b j = 1)) → lastTo c n = max (lastTo a n) (lastTo b n)
  | 0, _ => by simp [lastTo]
  | n + 1, h => by
    have ih := lastTo_or n fun j hj => h j (by omega)
    have hn := h n (by omega)
    have ra := lastTo_range a n
    have rb := lastTo_range b n
    unfold lastTo
    by_cases ha : bit a n = 1
    · rw [if_pos (hn.2 (.inl ha)), if_pos ha]; split <;> omega
    · by_cases hb : bit b n = 1
      · rw [if_pos (hn.2 (.inr hb)), if_neg ha, if_pos hb]; omega
      · rw [if_neg (fun h => (hn.1 h).elim ha hb), if_neg ha, if_neg hb, ih]

/-! ### One depth changed -/
theorem len_changes (k : Nat → Nat) (i : Nat) : ∀ n, n ≤ 256 → (setZ (insK k i) n).length = (setZ (delK k i) n).length + if i < n then 1 else 0
  | 0, _ => by simp [setZ]
  | n + 1, hn => by
    have ih := len_changes k i n (by omega)
    unfold setZ
    rw [bit_insK k i n (by omega), bit_delK k i n (by omega)]
    by_cases e : (n : Int) = i
    · rw [if_pos e, if_pos e, if_pos rfl, if_neg (by omega), if_pos (by omega)]
      rw [if_neg (by omega)] at ih
      simp; omega
    · rw [if_neg e, if_neg e]
      by_cases hb : bit k n = 1
      · rw [if_pos hb, if_pos hb]
        simp only [List.length_append, List.length_singleton]
        rw [ih]
        by_cases hi : i < n
        · rw [if_pos hi, if_pos (by omega)]
        · rw [if_neg hi, if_neg (by omega)]
      · rw [if_neg hb, if_neg hb, ih]
        by_cases hi : i < n
        · rw [if_pos hi, if_pos (by omega)]
        · rw [if_neg hi, if_neg (by omega)]
theorem del_ins (k : Nat → Nat) (i : Nat) (h : i < 256) : delK (insK k i) i = delK k i := by
  rcases bit_01 k i with hb | hb
  · have h1 := bit_insK k i i h
    rw [if_pos rfl] at h1
    rw [delK_yes _ i h h1, insK_no k i h hb, flip_flip, delK_no k i h hb]
  · rw [insK_yes k i h hb]
theorem ins_del (k : Nat → Nat) (i : Nat) (h : i < 256) : insK (delK k i) i = insK k i := by
  rcases bit_01 k i with hb | hb
  · rw [delK_no k i h hb]
  · have h1 := bit_delK k i i h
    rw [if_pos rfl] at h1
    rw [insK_no _ i h h1, delK_yes k i h hb, flip_flip, insK_yes k i h hb]
theorem hasK_ins (k : Nat → Nat) (i : Nat) (h : i < 256) : hasK (insK k i) i = true := by
  rw [hasK_in _ i h, bit_insK k i i h, if_pos rfl]; rfl
theorem hasK_del (k : Nat → Nat) (i : Nat) (h : i < 256) : hasK (delK k i) i = false := by
  rw [hasK_in _ i h, bit_delK k i i h, if_pos rfl]; rfl
theorem hasK_ins_other (k : Nat → Nat) (i j : Int) (h : i ≠ j) : hasK (insK k i) j = hasK k j := by
  rcases nat_of j with hj | ⟨n, rfl, hn⟩
  · rw [hasK_out _ j hj, hasK_out _ j hj]
  · rw [hasK_in _ n hn, hasK_in _ n hn, bit_insK k i n hn, if_neg (by omega)]
theorem hasK_del_other (k : Nat → Nat) (i j : Int) (h : i ≠ j) : hasK (delK k i) j = hasK k j := by
  rcases nat_of j with hj | ⟨n, rfl, hn⟩
  · rw [hasK_out _ j hj, hasK_out _ j hj]
  · rw [hasK_in _ n hn, hasK_in _ n hn, bit_delK k i n hn, if_neg (by omega)]

/-! ### Two lists -/
theorem bit_or (l m : List Int) (j : Nat) (hj : j < 256) : bit (ofK (l ++ m)) j = 1 ↔ bit (ofK l) j = 1 ∨ bit (ofK m) j = 1 := by
  rw [bit_ofK _ j hj, bit_ofK _ j hj, bit_ofK _ j hj]
  by_cases h1 : (j : Int) ∈ l <;> by_cases h2 : (j : Int) ∈ m <;> simp [List.mem_append, h1, h2]
theorem hasK_or (l m : List Int) (i : Int) : hasK (ofK (l ++ m)) i = (hasK (ofK l) i || hasK (ofK m) i) := by
  rcases nat_of i with hj | ⟨n, rfl, hn⟩
  · rw [hasK_out _ i hj, hasK_out _ i hj, hasK_out _ i hj]; rfl
  · rw [hasK_in _ n hn, hasK_in _ n hn, hasK_in _ n hn, Bool.eq_iff_iff]
    simp only [Bool.or_eq_true, decide_eq_true_eq]
    exact bit_or l m n hn
theorem last_or (l m : List Int) : lastTo (ofK (l ++ m)) 256 = max (lastTo (ofK l) 256) (lastTo (ofK m) 256) := lastTo_or 256 fun j hj => bit_or l m j hj

/-! ### The reference -/
/-- The numbers below n that are in a list. -/
def refZ (l : List Int) : Nat → List Int
  | 0 => []
  | n + 1 => if (n : Int) ∈ l then refZ l n ++ [(n : Int)] else refZ l n
theorem refZ_eq (l : List Int) : ∀ n, n ≤ 256 → refZ l n = setZ (ofK l) n
  | 0, _ => rfl
  | n + 1, hn => by
    unfold refZ setZ
    rw [refZ_eq l n (by omega), bit_ofK l n (by omega)]
    by_cases h : (n : Int) ∈ l
    · rw [if_pos h, if_pos h, if_pos rfl]
    · rw [if_neg h, if_neg h, if_neg (by omega)]
theorem not_in_take {l : List Int} (h : l.Nodup) {m : Nat} {x : Int} (hx : l[m]? = some x) : x ∉ l.take m := fun hm => by
  obtain ⟨i, hi, e⟩ := List.mem_iff_getElem.1 hm
  have hlm := (List.getElem?_eq_some_iff.1 hx).1
  have hil : i < m := by simp at hi; omega
  rw [List.getElem_take] at e
  have e2 : l[m] = x := (List.getElem?_eq_some_iff.1 hx).2
  have := (List.getElem_inj (h₀ := by omega) (h₁ := hlm) h).1 (e.trans e2.symm)
  omega
theorem take_snoc {l : List Int} {m : Nat} {x : Int} (hx : l[m]? = some x) : l.take (m + 1) = l.take m ++ [x] := by rw [List.take_add_one, hx]; rfl
/-- The bytes behind m of a list's numbers are those of the set of these. -/
theorem bytes_step (k : Nat → Nat) {m : Nat} {n : Nat} (hn : n < 256) (hx : (setZ k 256)[m]? = some (n : Int)) :
    bit (ofK ((setZ k 256).take m)) n = 0 ∧ upd (ofK ((setZ k 256).take m)) (n / 8) (ofK ((setZ k 256).take m) (n / 8) + msk n) = ofK ((setZ k 256).take (m + 1)) ∧ ofK ((setZ k 256).take m) (n / 8) + msk n < 256 := by
  have hb : bit (ofK ((setZ k 256).take m)) n = 0 := by rw [bit_ofK _ n hn, if_neg (not_in_take (setZ_nodup k 256) hx)]
  have hf := flip_zero (ofK_byt ((setZ k 256).take m)) hb
  refine ⟨hb, ?_, ?_⟩
  · rw [hf, take_snoc hx]
    show _ = ofFrom kz _
    rw [ofFrom_snoc]
    exact (insK_no _ n hn hb).symm
  · have h1 := flip_byt (ofK_byt ((setZ k 256).take m)) n (n / 8)
    rw [← hf] at h1
    simpa [upd] using h1

/-! ### Each number twice -/
def ord (l : List Int) : Nat → List Int
  | 0 => []
  | n + 1 => ord l n ++ [l.getD (l.length - 1 - n) 0, l.getD n 0]
theorem ord_len (l : List Int) : ∀ n, (ord l n).length = 2 * n
  | 0 => rfl
  | n + 1 => by unfold ord; rw [List.length_append, ord_len l n]; simp; omega
theorem getD_mem {l : List Int} {n : Nat} (h : n < l.length) : l.getD n 0 ∈ l := by
  rw [List.getD_eq_getElem?_getD, List.getElem?_eq_getElem h]
  exact List.getElem_mem h
theorem ord_sub (l : List Int) (x : Int) : ∀ n, n ≤ l.length → x ∈ ord l n → x ∈ l
  | 0, _, h => by simp [ord] at h
  | n + 1, hn, h => by
    unfold ord at h
    rcases List.mem_append.1 h with h | h
    · exact ord_sub l x n (by omega) h
    · have : x = l.getD (l.length - 1 - n) 0 ∨ x = l.getD n 0 := by simpa using h
      rcases this with rfl | rfl
      · exact getD_mem (by omega)
      · exact getD_mem (by omega)
theorem ord_has (l : List Int) : ∀ n j, j < n → l.getD j 0 ∈ ord l n
  | 0, _, h => by omega
  | n + 1, j, h => by
    unfold ord
    by_cases e : j = n
    · subst e; simp
    · exact List.mem_append.2 (.inl (ord_has l n j (by omega)))
theorem mem_ord (l : List Int) (x : Int) : x ∈ ord l l.length ↔ x ∈ l := by
  refine ⟨ord_sub l x _ (Nat.le_refl _), fun h => ?_⟩
  obtain ⟨i, hi, e⟩ := List.mem_iff_getElem.1 h
  have := ord_has l l.length i hi
  rwa [List.getD_eq_getElem?_getD, List.getElem?_eq_getElem hi, show (some l[i]).getD 0 = l[i] from rfl, e] at this
end Go.Proofs.YtbkokcfmndiedaaGreatDoor.Bt

/- Rows of numbers: given ones, and the call's own, to which numbers and rows are appended. -/
namespace Go.Proofs.YtbkokcfmndiedaaGreatDoor.Bt
open Go.RowKit

theorem get_zome {l : List Int} {i : Nat} (h : i < l.length) : ∃ x, l[i]? = some x := ⟨_, List.getElem?_eq_getElem h⟩
theorem bt_lt_heap {w : World} {b : Nat} {o : Obj} (h : w.heap[b]? = some o) : b < w.heap.size := by
  rcases Nat.lt_or_ge b w.heap.size with h' | h'
  · exact h'
  · rw [Array.getElem?_eq_none h'] at h; cases h
theorem bt_lt_cell {w : World} {a : Addr} {v : Value} (h : w.cell? a = some v) : a.block < w.heap.size := by
  rcases Nat.lt_or_ge a.block w.heap.size with h' | h'
  · exact h'
  · simp [World.cell?, Array.getElem?_eq_none h'] at h
theorem wrap_inr {x : Int} (h : -9223372036854775808 ≤ x) (h2 : x < 9223372036854775808) : IntKind.i64.wrap x = x := by
  unfold IntKind.wrap
  rw [show (2 : Int) ^ IntKind.i64.bits = 18446744073709551616 from rfl, show IntKind.i64.signed = true from rfl]
  rw [show (2 : Int) ^ (IntKind.i64.bits - 1) = 9223372036854775808 from rfl]
  simp only [Bool.true_and, decide_eq_true_eq]
  split <;> omega
def zv (x : Int) : Value := .int .i64 x
/-- The numbers of l lie from A on. -/
def ZA (w : World) (A : Option Addr) (l : List Int) : Prop := ∀ (j : Nat) (x : Int), l[j]? = some x → ∃ b o, A = some ⟨b, o, none⟩ ∧ w.cell? ⟨b, o + j, none⟩ = some (.int .i64 x)
theorem ZA.below {w w' : World} {A : Option Addr} {l : List Int} (h : ZA w A l) (hb : Below w.heap.size w w') : ZA w' A l := fun j x hj => by
  obtain ⟨b, o, h1, h2⟩ := h j x hj
  exact ⟨b, o, h1, by rw [hb.cell (bt_lt_cell h2)]; exact h2⟩
theorem ZA.empty (w : World) (A : Option Addr) : ZA w A [] := fun j x h => by simp at h
theorem infoZ : (Tryz.prog.info? 3).map (fun i => (i.zero, i.size, i.bytes)) = some (some (.int .i64 0), 1, 8) := by kernel_rfl
def OwnZ (w : World) (B : Nat) (v : Value) (l : List Int) : Prop := w.ownsRow B 3 1 v l.length (l.map zv)
theorem OwnZ.nil (w : World) (B : Nat) : OwnZ w B (.slice none 0 0) [] := ⟨rfl, .inl ⟨rfl, rfl⟩⟩
theorem OwnZ.below {w w' : World} {B : Nat} {v : Value} {l : List Int} (h : OwnZ w B v l) (hb : Below w.heap.size w w') : OwnZ w' B v l := by
  obtain ⟨h0, h | ⟨g, cap, cur, rfl, hg, hh, hr⟩⟩ := h
  · exact ⟨h0, .inl h⟩
  · exact ⟨h0, .inr ⟨g, cap, cur, rfl, hg, by rw [hb.block g (bt_lt_heap hh)]; exact hh, hr⟩⟩
theorem OwnZ.mono {w : World} {B B' : Nat} {v : Value} {l : List Int} (h : OwnZ w B v l) (hB : B' ≤ B) : OwnZ w B' v l := by
  obtain ⟨h0, h | ⟨g, cap, cur, hv, hg, hr⟩⟩ := h
  · exact ⟨h0, .inl h⟩
  · exact ⟨h0, .inr ⟨g, cap, cur, hv, by omega, hr⟩⟩
theorem OwnZ.ge {w : World} {B : Nat} {v : Value} {l : List Int} (h : OwnZ w B v l) : ∀ k, v.ownBlock = some k → B ≤ k := fun k hk => by
  obtain ⟨_, h | ⟨g, cap, cur, rfl, hg, _⟩⟩ := h
  · obtain ⟨rfl, _⟩ := h; simp [Value.ownBlock] at hk
  · simp [Value.ownBlock] at hk; omega
theorem OwnZ.is {w : World} {B : Nat} {v : Value} {l : List Int} (h : OwnZ w B v l) : ∃ A c, v = .slice A l.length c ∧ ZA w A l := by
  obtain ⟨h0, ⟨rfl, h⟩ | ⟨g, cap, cur, rfl, hg, hh, hn, hc, hs, ht⟩⟩ := h
  · exact ⟨none, 0, by rw [h], fun i x hi => by
      have : l = [] := List.length_eq_zero_iff.1 h
      subst this; simp at hi⟩
  · refine ⟨_, _, rfl, fun i x hi => ⟨g, 0, rfl, ?_⟩⟩
    rw [Nat.zero_add, cell_of_row _ _ _ _ _ _ hh, ← Array.getElem?_toList]
    have hlt : i < l.length := (List.getElem?_eq_some_iff.1 hi).1
    have : (cur.toList.take (l.length * 1))[i]? = some (zv x) := by rw [ht]; simp [hi]
    rw [List.getElem?_take_of_lt (by omega)] at this
    exact this
/-- Numbers in a block that was just made. -/
theorem ZA_new (w : World) (l : List Int) : ZA (w.alloc (.cells (l.map zv).toArray 3)) (some ⟨w.heap.size, 0, none⟩) l := fun j x hx => by
  refine ⟨_, _, rfl, ?_⟩
  rw [cell_of_row _ _ _ _ _ _ (heap_alloc_last w _), List.getElem?_toArray, Nat.zero_add, List.getElem?_map, hx]
  rfl
theorem OwnZ_new (w : World) : OwnZ (w.alloc (.cells #[] 3)) w.heap.size (.slice (some ⟨w.heap.size, 0, none⟩) 0 0) [] :=
  ⟨rfl, .inr ⟨w.heap.size, 0, #[], rfl, Nat.le_refl _, heap_alloc_last w _, Nat.zero_le _, Nat.zero_le _, rfl, rfl⟩⟩
/-- One number is appended. -/
theorem wpList_pushZ {ops : Array Oper} {rest : List Oper} {o : Oper} {a : Act} {w : World} {Q : Exit → Act → World → Prop} (hgd : o.guard = none) (s x : Operand)
    (ho : o.op = .call { callee := .builtin .append, args := #[s, x], argTypes := #[43, 43] }) (B : Nat) (v : Value) (l : List Int) (hs : a.eval s = v) (hown : OwnZ w B v l) (g : Nat) (d : Int)
    (hx : a.eval x = .slice (some ⟨g, 0, none⟩) 1 1) (hr : w.cell? ⟨g, 0, none⟩ = some (.int .i64 d)) (hl : l.length ≤ 1000000) (hB : B ≤ w.heap.size)
    (h : ∀ v' w', OwnZ w' B v' (l ++ [d]) → Below B w w' → wpList Tryz.prog ops Q rest (a.put o.dst v') w') : wpList Tryz.prog ops Q (o :: rest) a w := by
  obtain ⟨i0, hi, hz0, hz1, hz2⟩ := info_parts infoZ
  refine wpList_append_own (w := w) hgd s x 43 ho B 3 i0 _ 1 8 Tryz.underlying43 hi hz0 hz1 hz2 rfl (by decide) v l.length (l.map zv) hs hown ⟨g, 0, none⟩ 1 1 [zv d] hx rfl
    (fun j u hj => ?_) (fun u hu => ?_) (by unfold maxLen; omega) (by omega) hB fun v' w' h1 h2 _ => h v' w' ?_ ?_
  · match j, hj with
    | 0, hj =>
      simp at hj
      rw [← hj]
      simpa [Addr.add, zv] using hr
  · simp at hu; subst hu; rfl
  · unfold OwnZ
    rw [List.map_append, List.length_append]
    simpa using h1
  · exact (Below.refl _ _).grown h2 hB hown.ge
/-- A row is appended, whatever its length, to a row with an address. -/
theorem wpList_catZ {ops : Array Oper} {rest : List Oper} {o : Oper} {a : Act} {w : World} {Q : Exit → Act → World → Prop} (hgd : o.guard = none) (s x : Operand)
    (ho : o.op = .call { callee := .builtin .append, args := #[s, x], argTypes := #[43, 43] }) (B : Nat) (v : Value) (l : List Int) (hs : a.eval s = v) (hown : OwnZ w B v l) (hv : v ≠ .slice none 0 0) (A : Option Addr) (c : Nat) (m : List Int)
    (hx : a.eval x = .slice A m.length c) (hk : ZA w A m) (hl : l.length ≤ 1000000) (hm : m.length ≤ 1000000) (hB : B ≤ w.heap.size)
    (h : ∀ v' w', OwnZ w' B v' (l ++ m) → v' ≠ .slice none 0 0 → Below B w w' → wpList Tryz.prog ops Q rest (a.put o.dst v') w') : wpList Tryz.prog ops Q (o :: rest) a w := by
  obtain ⟨i0, hi, hz0, hz1, hz2⟩ := info_parts infoZ
  rcases Nat.eq_zero_or_pos m.length with h0 | h0
  · obtain rfl : m = [] := List.length_eq_zero_iff.1 h0
    have hown' := hown
    obtain ⟨_, ⟨e, _⟩ | ⟨g, cap, cur, rfl, hg, hh, hn, hc, hsz, ht⟩⟩ := hown
    · exact absurd e hv
    · have hsrc : Src Tryz.prog i0.size 43 (.slice A 0 c) 0 [] w := by
        cases A with
        | none => exact Src.ofNil w Tryz.underlying43 c
        | some ad => exact Src.ofSlice w Tryz.underlying43 ad 0 c [] (by simp) (fun j v hj => by simp at hj) (fun v hv => by simp at hv)
      have hrun := run_append_room_src (P := Tryz.prog) w 43 43 o.type 3 i0 Tryz.underlying43 hi g 0 l.length cap (.slice A 0 c) 0 [] hsrc (by omega) (fun j hj => by simp at hj) (fun j hj => by simp at hj)
      refine wpList_plain hgd fun K hK => ?_
      have hk2 := hK _ _ (h (.slice (some ⟨g, 0, none⟩) l.length cap) w (by simpa using hown') (by simp) (Below.refl _ _))
      rw [List.length_nil] at hx
      unfold Oper.wp
      simp [execOp, ho, resolve, invoke, builtin, hs, hx, hrun, Result.andThen]
      exact hk2
  · obtain ⟨x0, hx0⟩ := get_zome h0
    obtain ⟨b, o2, rfl, _⟩ := hk 0 _ hx0
    refine wpList_append_own (w := w) hgd s x 43 ho B 3 i0 _ 1 8 Tryz.underlying43 hi hz0 hz1 hz2 rfl (by decide) v l.length (l.map zv) hs hown ⟨b, o2, none⟩ m.length c (m.map zv) hx (by simp)
      (fun j u hj => ?_) (fun u hu => ?_) (by unfold maxLen; omega) (by omega) hB fun v' w' h1 h2 h3 => h v' w' ?_ (fun e => hv (h3.1 e).1) ?_
    · rw [List.getElem?_map] at hj
      obtain ⟨y, hy, rfl⟩ := Option.map_eq_some_iff.1 hj
      obtain ⟨b3, o3, e, h3⟩ := hk j y hy
      cases e
      rw [show (⟨b, o2, none⟩ : Addr).add j = ⟨b, o2 + j, none⟩ by unfold Addr.add; split <;> simp_all]
      exact h3
    · obtain ⟨y, _, rfl⟩ := List.mem_map.1 hu
      rfl
    · unfold OwnZ
      rw [List.map_append, List.length_append]
      exact h1
    · exact (Below.refl _ _).grown h2 hB hown.ge
end Go.Proofs.YtbkokcfmndiedaaGreatDoor.Bt

/- The program's sets of depths: Has, With, Without, List, Len, Last, Of. -/
namespace Go.Proofs.YtbkokcfmndiedaaGreatDoor.Bt
open Go.RowKit

theorem ret_boolb {a b : Bool} (h : a = b) : Ending.returned (.bool a) = .returned (.bool b) := by rw [h]
set_option maxHeartbeats 400000 in
theorem has_c (k : Nat → Nat) (hk : Byt k) (i : Int) (w : World) :
    Calls Tryz.prog 53 #[.agg (kc k), .int .i64 i] w fun e w' => e = .returned (.bool (hasK k i)) ∧ Below w.heap.size w w' := by
  go_enter Tryz.func53, Tryz.ntmps53
  go_wp2_with fail
  refine (bit_c k hk i _).mono ?_
  rintro e w1 ⟨rfl, hb⟩
  have HB : Hid (Below w.heap.size w w1) := (one_below _ _).trans (hb.mono (by simp))
  clear hb hk
  go_wp2
  go_ret
  exact ⟨rfl, HB.out⟩
set_option maxHeartbeats 400000 in
theorem bflip_c (k : Nat → Nat) (hk : Byt k) (i : Int) (w : World) :
    Calls Tryz.prog 61 #[.agg (kc k), .int .i64 i] w fun e w' => e = .returned (.agg (kc (flipI k i))) ∧ Below w.heap.size w w' := by
  go_enter Tryz.func61, Tryz.ntmps61
  go_wp2_with fail
  refine (flip_c k hk i _).mono ?_
  rintro e w1 ⟨rfl, hb⟩
  have HB : Hid (Below w.heap.size w w1) := (two_below _ _ _).trans (hb.mono (by simp; omega))
  have hz := (BmAt.two' w kz (.cells (kc k) 75)).below hb (by simp)
  have hs := hz.st (flipI k i)
  have HZ : Hid (BmAt (w1.setRow (w.heap.size + 1) (kc (flipI k i))) (w.heap.size + 1) (flipI k i)) := hz.row _
  clear hb hk hz
  go_wp2
  refine bodyPost_ret (v := .agg (kc (flipI k i))) ?_ rfl ⟨rfl, below_row HB.out (by omega) _⟩
  exact results_cell_row Tryz.results61 _ _ (w.heap.size + 1) 75 _ (0, 0) _ rfl HZ.out Tryz.underlying75 rfl (by rw [kc_size]; exact infoBm)
set_option maxHeartbeats 400000 in
theorem with_c (k : Nat → Nat) (hk : Byt k) (i : Int) (w : World) :
    Calls Tryz.prog 31 #[.agg (kc k), .int .i64 i] w fun e w' => e = .returned (.agg (kc (insK k i))) ∧ Below w.heap.size w w' := by
  by_cases hh : hasK k i = true
  · rw [show insK k i = k by unfold insK; rw [if_pos hh]]
    go_enter Tryz.func31, Tryz.ntmps31
    go_wp2_with fail
    refine (has_c k hk i _).mono ?_
    rintro e w1 ⟨rfl, hb⟩
    have HB : Hid (Below w.heap.size w w1) := (two_below _ _ _).trans (hb.mono (by simp; omega))
    have hz := (BmAt.two' w kz (.cells (kc k) 75)).below hb (by simp)
    have hl := ((BmAt.two w k (.cells (kc kz) 75)).below hb (by simp; omega)).ld
    have hs := hz.st k
    have HZ : Hid (BmAt (w1.setRow (w.heap.size + 1) (kc k)) (w.heap.size + 1) k) := hz.row _
    clear hb hk hz
    go_wp2
    refine bodyPost_ret (v := .agg (kc k)) ?_ rfl ⟨rfl, below_row HB.out (by omega) _⟩
    exact results_cell_row Tryz.results31 _ _ (w.heap.size + 1) 75 _ (0, 0) _ rfl HZ.out Tryz.underlying75 rfl (by rw [kc_size]; exact infoBm)
  · have hf : hasK k i = false := by simpa using hh
    rw [show insK k i = flipI k i by unfold insK; rw [if_neg hh]]
    clear hh
    go_enter Tryz.func31, Tryz.ntmps31
    go_wp2_with fail
    refine (has_c k hk i _).mono ?_
    rintro e w1 ⟨rfl, hb⟩
    have HB : Hid (Below w.heap.size w w1) := (two_below _ _ _).trans (hb.mono (by simp; omega))
    have hz := (BmAt.two' w kz (.cells (kc k) 75)).below hb (by simp)
    have hl := ((BmAt.two w k (.cells (kc kz) 75)).below hb (by simp; omega)).ld
    have HL := Lib.hid hl
    have HK := Lib.hid hk
    have HZ := Lib.hid hz
    clear hb hk hz
    go_wp2_with fail
    refine (bflip_c k HK.out i _).mono ?_
    rintro e w2 ⟨rfl, hb⟩
    have HB2 : Hid (Below w.heap.size w w2) := HB.out.trans (hb.mono HB.out.size)
    have hz := HZ.out.below hb HZ.out.lt
    have hs := hz.st (flipI k i)
    have HZ2 : Hid (BmAt (w2.setRow (w.heap.size + 1) (kc (flipI k i))) (w.heap.size + 1) (flipI k i)) := hz.row _
    clear hb hz hl hf
    go_wp2
    refine bodyPost_ret (v := .agg (kc (flipI k i))) ?_ rfl ⟨rfl, below_row HB2.out (by omega) _⟩
    exact results_cell_row Tryz.results31 _ _ (w.heap.size + 1) 75 _ (0, 0) _ rfl HZ2.out Tryz.underlying75 rfl (by rw [kc_size]; exact infoBm)
end Go.Proofs.YtbkokcfmndiedaaGreatDoor.Bt

/- The program's sets of depths: List, Len, Last, Of. -/
namespace Go.Proofs.YtbkokcfmndiedaaGreatDoor.Bt
open Go.RowKit

theorem setZ_yes {k : Nat → Nat} {n : Nat} (h : bit k n = 1) : setZ k (n + 1) = setZ k n ++ [(n : Int)] := by show (if _ then _ else _) = _; rw [if_pos h]
theorem setZ_no {k : Nat → Nat} {n : Nat} (h : bit k n = 0) : setZ k (n + 1) = setZ k n := by show (if _ then _ else _) = _; rw [if_neg (by omega)]
theorem lastTo_yes {k : Nat → Nat} {n : Nat} (h : bit k n = 1) : lastTo k (n + 1) = n := by show (if _ then _ else _) = _; rw [if_pos h]
theorem lastTo_no {k : Nat → Nat} {n : Nat} (h : bit k n = 0) : lastTo k (n + 1) = lastTo k n := by show (if _ then _ else _) = _; rw [if_neg (by omega)]
theorem hasK_yes {k : Nat → Nat} {n : Nat} (hn : n < 256) (h : bit k n = 1) : hasK k (n : Int) = true := by rw [hasK_in k n hn, h]; rfl
theorem hasK_no {k : Nat → Nat} {n : Nat} (hn : n < 256) (h : bit k n = 0) : hasK k (n : Int) = false := by rw [hasK_in k n hn, h]; rfl
theorem cell_oneZ (w : World) (x : Int) (t : TypeId) : (w.alloc (.cells #[.int .i64 x] t)).cell? ⟨w.heap.size, 0, none⟩ = some (.int .i64 x) := by
  rw [cell_of_row _ _ _ _ _ _ (heap_alloc_last w _)]; rfl
set_option maxHeartbeats 1000000 in
theorem list_c (k : Nat → Nat) (hk : Byt k) (w : World) :
    Calls Tryz.prog 75 #[.agg (kc k)] w fun e w' => ∃ v, e = .returned v ∧ OwnZ w' w.heap.size v (setZ k 256) ∧ Below w.heap.size w w' := by
  have HK := Lib.hid hk
  clear hk
  go_enter Tryz.func75, Tryz.ntmps75
  go_wp2
  go_loopg [3, 5] 256 (fun g v j wr => ∃ m : Nat, j = .int .i64 m ∧ m ≤ 256 ∧ 256 - m ≤ g ∧ OwnZ wr (w.heap.size + 1) v (setZ k m) ∧ BmAt wr w.heap.size k ∧ Below w.heap.size w wr)
  case atStart => exact ⟨0, rfl, by omega, by omega, OwnZ.nil _ _, BmAt.one _ _, one_below _ _⟩
  case round =>
    obtain ⟨m, rfl, hm, hg, hO, hA, hB⟩ := hrel
    have HO := Lib.hid hO
    have HA := Lib.hid hA
    have HB := Lib.hid hB
    by_cases hlt : m < 256
    · have hd : decide ((m : Int) < 256) = true := by simp; omega
      have hl := hA.ld
      have hlen := setZ_len k m
      rcases bit_01 k m with hb | hb
      · have hf := hasK_no hlt hb
        have HS := Lib.hid (setZ_no hb)
        clear hO hA hB hb
        go_wp2_with fail
        refine (has_c k HK.out (m : Int) _).mono ?_
        rintro e w1 ⟨rfl, hb1⟩
        have HO1 := Lib.hid (HO.out.below hb1)
        have HA1 := Lib.hid (HA.out.below hb1 HA.out.lt)
        have HB1 := Lib.hid (HB.out.trans (hb1.mono HB.out.size))
        clear hb1 hl
        go_wp2
        go_roundg (256 - (m + 1))
        case measure => omega
        case rel => exact ⟨m + 1, by go_num, by omega, by omega, by rw [HS.out]; exact HO1.out, HA1.out, HB1.out⟩
      · have hf := hasK_yes hlt hb
        have HS := Lib.hid (setZ_yes hb)
        clear hO hA hB hb
        go_wp2_with fail
        refine (has_c k HK.out (m : Int) _).mono ?_
        rintro e w1 ⟨rfl, hb1⟩
        have HO1 := Lib.hid (HO.out.below hb1)
        have HA1 := Lib.hid (HA.out.below hb1 HA.out.lt)
        have HB1 := Lib.hid (HB.out.trans (hb1.mono HB.out.size))
        clear hb1 hl
        go_wp2_with (at_builtin; refine wpList_pushZ rfl _ _ rfl (w.heap.size + 1) _ (setZ k m) rfl (HO1.out.below (one_below _ _)) w1.heap.size (m : Int) rfl (cell_oneZ _ _ _) (by omega) (by have := HB1.out.size; have := HA1.out.lt; simp; omega) ?_)
        intro v' w2 hO2 hB2
        have HO2 := Lib.hid hO2
        have HB2 := Lib.hid ((HB1.out.alloc HB1.out.size _).trans (hB2.mono (by omega)))
        have HA2 := Lib.hid ((HA1.out.below (one_below _ _) HA1.out.lt).below hB2 (by omega))
        clear hO2 hB2
        go_wp2
        go_roundg (256 - (m + 1))
        case measure => omega
        case rel => exact ⟨m + 1, by go_num, by omega, by omega, by rw [HS.out]; exact HO2.out, HA2.out, HB2.out⟩
    · have hd : decide ((m : Int) < 256) = false := by simp; omega
      obtain rfl : m = 256 := by omega
      clear hO hA hB
      go_wp2
      go_ret
      exact ⟨_, rfl, HO.out.mono (by omega), HB.out⟩
set_option maxHeartbeats 400000 in
theorem len_c (k : Nat → Nat) (hk : Byt k) (w : World) :
    Calls Tryz.prog 55 #[.agg (kc k)] w fun e w' => e = .returned (.int .i64 (setZ k 256).length) ∧ Below w.heap.size w w' := by
  go_enter Tryz.func55, Tryz.ntmps55
  go_wp2_with fail
  refine (list_c k hk _).mono ?_
  rintro e w1 ⟨v, rfl, hO, hb⟩
  obtain ⟨A, c, rfl, _⟩ := hO.is
  have HB : Hid (Below w.heap.size w w1) := (one_below _ _).trans (hb.mono (by simp))
  clear hb hk hO
  go_wp2
  go_ret
  exact ⟨rfl, HB.out⟩
set_option maxHeartbeats 1000000 in
theorem last_c (k : Nat → Nat) (hk : Byt k) (w : World) :
    Calls Tryz.prog 51 #[.agg (kc k)] w fun e w' => e = .returned (.int .i64 (lastTo k 256)) ∧ Below w.heap.size w w' := by
  by_cases hz : keq k kz = true
  · rw [lastTo_kz hz]
    clear hk
    go_enter Tryz.func51, Tryz.ntmps51
    go_wp2
    go_ret
    exact ⟨rfl, one_below _ _⟩
  · have hz' : keq k kz = false := by simpa using hz
    have HN := Lib.hid (lastTo_some hk hz')
    have HK := Lib.hid hk
    clear hz hk
    go_enter Tryz.func51, Tryz.ntmps51
    go_wp2
    go_loopg [3] 256 (fun g j wr => ∃ m : Nat, j = .int .i64 m ∧ m < 256 ∧ m ≤ g ∧ Hid (lastTo k 256 = lastTo k (m + 1)) ∧ BmAt wr w.heap.size k ∧ Below w.heap.size w wr)
    case atStart => exact ⟨255, rfl, by omega, by omega, rfl, BmAt.one _ _, one_below _ _⟩
    case round =>
      obtain ⟨m, rfl, hm, hg, HL, hA, hB⟩ := hrel
      have HA := Lib.hid hA
      have HB := Lib.hid hB
      have hl := hA.ld
      clear hA hB
      rcases bit_01 k m with hb | hb
      · have hf := hasK_no hm hb
        have HS := Lib.hid (lastTo_no hb)
        have hpos : 0 < m := by
          rcases Nat.eq_zero_or_pos m with h | h
          · subst h
            exact absurd (HL.out.trans (lastTo_no hb)) HN.out
          · exact h
        clear hb
        go_wp2_with fail
        refine (has_c k HK.out (m : Int) _).mono ?_
        rintro e w1 ⟨rfl, hb1⟩
        have HA1 := Lib.hid (HA.out.below hb1 HA.out.lt)
        have HB1 := Lib.hid (HB.out.trans (hb1.mono HB.out.size))
        clear hb1 hl
        go_wp2
        go_roundg (m - 1)
        case measure => omega
        case rel => exact ⟨m - 1, by go_num, by omega, by omega, by rw [HL.out, HS.out, show m - 1 + 1 = m by omega]; rfl, HA1.out, HB1.out⟩
      · have hf := hasK_yes hm hb
        have HS := Lib.hid (lastTo_yes hb)
        clear hb
        go_wp2_with fail
        refine (has_c k HK.out (m : Int) _).mono ?_
        rintro e w1 ⟨rfl, hb1⟩
        have HB1 := Lib.hid (HB.out.trans (hb1.mono HB.out.size))
        clear hb1 hl
        go_wp2
        go_ret
        exact ⟨ret_int (by rw [HL.out, HS.out]), HB1.out⟩
end Go.Proofs.YtbkokcfmndiedaaGreatDoor.Bt

/- The reference of layer 14: Same, List, Bytes. -/
namespace Go.Proofs.YtbkokcfmndiedaaGreatDoor.Bt
open Go.RowKit
theorem refZ_len (l : List Int) : ∀ n, (refZ l n).length ≤ n
  | 0 => Nat.le_refl _
  | n + 1 => by
    have := refZ_len l n
    unfold refZ
    split
    · simp; omega
    · omega
theorem refZ_yes {l : List Int} {n : Nat} (h : (n : Int) ∈ l) : refZ l (n + 1) = refZ l n ++ [(n : Int)] := by show (if _ then _ else _) = _; rw [if_pos h]
theorem refZ_no {l : List Int} {n : Nat} (h : ¬ (n : Int) ∈ l) : refZ l (n + 1) = refZ l n := by show (if _ then _ else _) = _; rw [if_neg h]
/-- Whether a number is among the first n. -/
def amid (l : List Int) (i : Int) (n : Nat) : Bool := decide (i ∈ l.take n)
theorem amid_eq {l : List Int} {n : Nat} {x : Int} (hx : l[n]? = some x) : amid l x (n + 1) = true := by
  unfold amid; rw [take_snoc hx]; simp
theorem amid_ne {l : List Int} {n : Nat} {x i : Int} (hx : l[n]? = some x) (h : x ≠ i) : amid l i (n + 1) = amid l i n := by
  unfold amid; rw [take_snoc hx]
  have : i ≠ x := fun e => h e.symm
  simp [this]
set_option maxHeartbeats 1000000 in
set_option maxRecDepth 100000 in
theorem rlist_c (A : Option Addr) (c : Nat) (l : List Int) (w : World) (hA : ZA w A l) (hl : l.length ≤ 4611686018427387904) :
    Calls Tryz.prog 46 #[.slice A l.length c] w fun e w' => ∃ v, e = .returned v ∧ OwnZ w' w.heap.size v (refZ l 256) ∧ Below w.heap.size w w' := by
  have HZ := Lib.hid hA
  clear hA
  go_enter Tryz.func46, Tryz.ntmps46
  go_wp2
  go_loopg [3, 4] 256 (fun g v i wr => ∃ m : Nat, i = .int .i64 m ∧ m ≤ 256 ∧ 256 - m ≤ g ∧ OwnZ wr w.heap.size v (refZ l m) ∧ Below w.heap.size w wr)
  case atStart => exact ⟨0, rfl, by omega, by omega, OwnZ.nil _ _, Below.refl _ _⟩
  case round =>
    obtain ⟨m, rfl, hm, hg, hO, hB⟩ := hrel
    have HO := Lib.hid hO
    have HB := Lib.hid hB
    obtain ⟨wo, rfl⟩ : ∃ wo : World, wo = wr := ⟨_, rfl⟩
    by_cases hlt : m < 256
    · have hd : decide ((m : Int) < 256) = true := by simp; omega
      have hlen := refZ_len l m
      clear hO hB
      go_wp2
      go_loopg [5, 6] l.length (fun g2 f j wr => ∃ n : Nat, j = .int .i64 n ∧ n ≤ l.length ∧ l.length - n ≤ g2 ∧ f = .bool (amid l m n) ∧ wr = wo)
      case atStart => exact ⟨0, rfl, by omega, by omega, by simp [amid], rfl⟩
      case round =>
        obtain ⟨n, rfl, hn, hg2, rfl, rfl⟩ := hrel
        by_cases hlt2 : n < l.length
        · have hd2 : decide ((n : Int) < l.length) = true := by simp; omega
          obtain ⟨x, hx⟩ := get_zome hlt2
          obtain ⟨b1, o1, rfl, h1⟩ := (HZ.out.below HB.out) n x hx
          by_cases hxm : x = m
          · have hf : (x == (m : Int)) = true := by simpa using hxm
            have HS := Lib.hid (amid_eq hx)
            have HM := Lib.hid hxm
            clear hx hxm
            go_wp2
            go_roundg (l.length - (n + 1))
            case measure => omega
            case rel => exact ⟨n + 1, by go_num, by omega, by omega, by rw [← HM.out, HS.out], rfl⟩
          · have hf : (x == (m : Int)) = false := by simpa using hxm
            have HS := Lib.hid (amid_ne hx hxm)
            clear hx hxm
            go_wp2
            go_roundg (l.length - (n + 1))
            case measure => omega
            case rel => exact ⟨n + 1, by go_num, by omega, by omega, by rw [HS.out], rfl⟩
        · have hd2 : decide ((n : Int) < l.length) = false := by simp; omega
          obtain rfl : n = l.length := by omega
          clear hlt2 hn hg2
          by_cases hmem : (m : Int) ∈ l
          · have hf : amid l m l.length = true := by unfold amid; rw [List.take_length]; simpa using hmem
            have HS := Lib.hid (refZ_yes hmem)
            rw [hf]
            clear hmem hf
            go_wp2_with (at_builtin; refine wpList_pushZ rfl _ _ rfl w.heap.size _ (refZ l m) rfl (HO.out.below (one_below _ _)) wr.heap.size (m : Int) rfl (cell_oneZ _ _ _) (by omega) (by have := HB.out.size; simp; omega) ?_)
            intro v' w2 hO2 hB2
            have HO2 := Lib.hid hO2
            have HB2 := Lib.hid ((HB.out.alloc HB.out.size _).trans hB2)
            clear hO2 hB2
            go_wp2
            go_roundg (256 - (m + 1))
            case measure => omega
            case rel => exact ⟨m + 1, by go_num, by omega, by omega, by rw [HS.out]; exact HO2.out, HB2.out⟩
          · have hf : amid l m l.length = false := by unfold amid; rw [List.take_length]; simpa using hmem
            have HS := Lib.hid (refZ_no hmem)
            rw [hf]
            clear hmem hf
            go_wp2
            go_roundg (256 - (m + 1))
            case measure => omega
            case rel => exact ⟨m + 1, by go_num, by omega, by omega, by rw [HS.out]; exact HO.out, HB.out⟩
    · have hd : decide ((m : Int) < 256) = false := by simp; omega
      obtain rfl : m = 256 := by omega
      clear hO hB
      go_wp2
      go_ret
      exact ⟨_, rfl, HO.out, HB.out⟩
theorem OwnZ.za {w : World} {B n c : Nat} {A : Option Addr} {l : List Int} (h : OwnZ w B (.slice A n c) l) : ZA w A l := by
  obtain ⟨A', c', e, hz⟩ := h.is
  cases e
  exact hz
theorem OwnZ.other {w : World} {B g j : Nat} {v x : Value} {l : List Int} (h : OwnZ w B v l) (hg : g < B) : OwnZ (w.setCell ⟨g, j, none⟩ x) B v l := by
  obtain ⟨h0, h | ⟨g', cap, cur, rfl, hg', hh, hr⟩⟩ := h
  · exact ⟨h0, .inl h⟩
  · exact ⟨h0, .inr ⟨g', cap, cur, rfl, hg', by rw [heap_setCell_other _ _ _ _ (show g' ≠ g by omega)]; exact hh, hr⟩⟩
theorem below_cell {B g j : Nat} {a w : World} {x : Value} (h : Below B a w) (hg : B ≤ g) : Below B a (w.setCell ⟨g, j, none⟩ x) :=
  ⟨h.os, h.tape, h.output, by simpa [World.setCell] using h.size, fun i hi => by rw [heap_setCell_other _ _ _ _ (show i ≠ g by omega)]; exact h.block i hi⟩
set_option maxRecDepth 100000 in
set_option maxHeartbeats 2000000 in
theorem rbytes_c (A : Option Addr) (c : Nat) (l : List Int) (w : World) (hA : ZA w A l) (hl : l.length ≤ 4611686018427387904) :
    Calls Tryz.prog 25 #[.slice A l.length c] w fun e w' => e = .returned (.agg (kc (ofK l))) ∧ Below w.heap.size w w' := by
  have HA := Lib.hid hA
  have HL := Lib.hid hl
  clear hA hl
  go_enter Tryz.func25, Tryz.ntmps25
  go_wp2_with fail
  refine (rlist_c A c l _ (HA.out.below (two_below _ _ _)) HL.out).mono ?_
  rintro e w1 ⟨v, rfl, hO, hb⟩
  rw [refZ_eq l 256 (Nat.le_refl _)] at hO
  have HR : Hid (∀ x, x ∈ setZ (ofK l) 256 → 0 ≤ x ∧ x < (256 : Nat)) := fun _ h => setZ_range (ofK l) 256 h
  have HST : Hid (∀ m n : Nat, n < 256 → (setZ (ofK l) 256)[m]? = some (n : Int) → bit (ofK ((setZ (ofK l) 256).take m)) n = 0 ∧ upd (ofK ((setZ (ofK l) 256).take m)) (n / 8) (ofK ((setZ (ofK l) 256).take m) (n / 8) + msk n) = ofK ((setZ (ofK l) 256).take (m + 1)) ∧ ofK ((setZ (ofK l) 256).take m) (n / 8) + msk n < 256) := fun m n hn hx => bytes_step (ofK l) hn hx
  have HEND := Lib.hid (kc_congr (ofK_setZ (ofK_byt l)))
  have hLl := setZ_len (ofK l) 256
  obtain ⟨L, hL⟩ : ∃ L, L = setZ (ofK l) 256 := ⟨_, rfl⟩
  have hO' := hO
  rw [← hL] at hO hO' HR HST HEND hLl
  obtain ⟨A1, c1, rfl, _⟩ := hO'.is
  have HB1 := Lib.hid ((two_below w (.cells (kc kz) 23) (.cells (kc kz) 23)).trans (hb.mono (by simp; omega)))
  have HO := Lib.hid (hO.mono (B' := w.heap.size + 2) (by simp))
  have HC := Lib.hid ((ArAt.two w kz (.cells (kc kz) 23)).below hb (by simp; omega))
  have HD := Lib.hid ((ArAt.two' w kz (.cells (kc kz) 23)).below hb (by simp))
  clear hL hb hO hO'
  go_wp2
  go_loopg [5] L.length (fun g j wr => ∃ m : Nat, j = .int .i64 m ∧ m ≤ L.length ∧ L.length - m ≤ g ∧ OwnZ wr (w.heap.size + 2) (.slice A1 L.length c1) L ∧ ArAt wr w.heap.size kz ∧ ArAt wr (w.heap.size + 1) (ofK (L.take m)) ∧ Below w.heap.size w wr)
  case atStart => exact ⟨0, rfl, by omega, by omega, HO.out, HC.out, HD.out, HB1.out⟩
  case round =>
    obtain ⟨m, rfl, hm, hg, hO, hC, hD, hB⟩ := hrel
    have HO2 := Lib.hid hO
    have HC2 := Lib.hid hC
    have HD2 := Lib.hid hD
    have HB2 := Lib.hid hB
    obtain ⟨wo, rfl⟩ : ∃ wo : World, wo = wr := ⟨_, rfl⟩
    by_cases hlt : m < L.length
    · have hd : decide ((m : Int) < L.length) = true := by simp; omega
      obtain ⟨x, hx⟩ := get_zome hlt
      obtain ⟨b1, o1, rfl, h1⟩ := hO.za m x hx
      obtain ⟨n, rfl⟩ : ∃ n : Nat, x = n := Int.eq_ofNat_of_zero_le (HR.out _ (List.mem_of_getElem? hx)).1
      have hn : n < 256 := by have := (HR.out _ (List.mem_of_getElem? hx)).2; omega
      obtain ⟨_, hs1, hs2⟩ := HST.out m n hn hx
      have HS := Lib.hid hs1
      have HC1 := Lib.hid (hD.cell (j := n / 8) (by omega))
      have HF := Lib.hid (hD.free (n / 8))
      obtain ⟨y, hy⟩ : ∃ y, y = ofK (L.take m) (n / 8) := ⟨_, rfl⟩
      rw [← hy] at hs2 HS HC1
      have HM := Lib.hid (show msk n = 2 ^ (7 - n % 8) from rfl)
      obtain ⟨z, hz⟩ : ∃ z, z = msk n := ⟨_, rfl⟩
      rw [← hz] at hs2 HS HM
      have hcell := HC1.out
      have hfree := HF.out
      clear hx hs1 hO hC hD hB hy hz
      go_wp2
      go_loopg [6, 7] 8 (fun g2 v j wr => ∃ q : Nat, n % 8 ≤ q ∧ q ≤ 7 ∧ 8 - q ≤ g2 ∧ j = .int .i64 q ∧ v = .int .i64 (2 ^ (q - n % 8) : Nat) ∧ wr = wo)
      case atStart => exact ⟨n % 8, by omega, by omega, by omega, by simp, by simp, rfl⟩
      case round =>
        obtain ⟨q, h2, h3, hg2, rfl, rfl, rfl⟩ := hrel
        have hp : (2 ^ (q - n % 8) : Nat) ≤ 128 := by
          have : 2 ^ (q - n % 8) ≤ 2 ^ 7 := Nat.pow_le_pow_right (by decide) (by omega)
          simpa using this
        obtain ⟨v, hv⟩ : ∃ v : Nat, v = 2 ^ (q - n % 8) := ⟨_, rfl⟩
        rw [← hv] at hp ⊢
        have HV := Lib.hid hv
        clear hv
        by_cases hlt2 : q < 7
        · go_wp2
          go_roundg (8 - (q + 1))
          case measure => omega
          case rel =>
            refine ⟨q + 1, by omega, by omega, by omega, by go_num, ?_, rfl⟩
            have : (2 ^ (q + 1 - n % 8) : Nat) = v * 2 := by rw [HV.out, show q + 1 - n % 8 = (q - n % 8) + 1 by omega, Nat.pow_succ]
            rw [this]; go_num
        · have hvz : v = z := by rw [HV.out, HM.out, show q = 7 by omega]
          have HVZ := Lib.hid hvz
          subst hvz
          clear HM hg2 h2
          go_wp2
          have HO3 := Lib.hid (HO2.out.other (j := n / 8) (x := .int .u8 ((y : Int) + (v : Int))) (show w.heap.size + 1 < w.heap.size + 2 by omega))
          have HC3 := Lib.hid (HC2.out.set_other (c := w.heap.size + 1) (by omega) (n / 8) (.int .u8 ((y : Int) + (v : Int))))
          have HD3 := Lib.hid (HD2.out.set (n / 8) (y + v))
          have HB3 := Lib.hid (below_cell (j := n / 8) (x := .int .u8 ((y : Int) + (v : Int))) HB2.out (show w.heap.size ≤ w.heap.size + 1 by omega))
          go_roundg (L.length - (m + 1))
          case measure => omega
          case rel =>
            refine ⟨m + 1, by go_num, by omega, by omega, HO3.out, HC3.out, ?_, HB3.out⟩
            have := HD3.out
            rw [HS.out] at this
            simpa using this
    · have hd : decide ((m : Int) < L.length) = false := by simp; omega
      obtain rfl : m = L.length := by omega
      rw [List.take_length] at hD HD2
      have hld := hD.ld
      have hst := hC.st (ofK L)
      have HC1 := Lib.hid (hC.row (ofK L))
      clear hO hC hD hB hlt hg hm
      go_wp2
      refine bodyPost_ret (v := .agg (kc (ofK L))) ?_ rfl ⟨by rw [HEND.out], below_row HB2.out (Nat.le_refl _) _⟩
      exact results_cell_row Tryz.results25 _ _ w.heap.size 23 _ (0, 0) _ rfl HC1.out Tryz.underlying23 rfl (by rw [kc_size]; exact infoAr)
end Go.Proofs.YtbkokcfmndiedaaGreatDoor.Bt
