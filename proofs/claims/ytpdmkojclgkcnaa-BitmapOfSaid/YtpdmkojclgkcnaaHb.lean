/- A set of depths: its 32 bytes stay folded (kc k), at the type of sets and at that of arrays of 32 bytes. -/
import Derived.Test.YtpdmkojclgkcnaaBtKit
namespace Go.Proofs.Ytpdmkojclgkcnaa.Bt
open Go.RowKit

/-! ### Bm -/
theorem infoBm : (Try.prog.info? 25).map (·.size) = some 32 := by kernel_rfl

noncomputable def ldBm (w : World) (v : Value) : Result Next := Sem.run Try.prog (do pure (.value (← Instr.loadAt 25 v))) w
noncomputable def stBm (w : World) (p v : Value) : Result Next := Sem.run Try.prog (do Instr.storeAt 25 p v; pure .skip) w

@[go_sem ↓] theorem execOp_load_Bm (ρ : Operand → Value) (dst : Option Tmp) (x : Operand) (type : TypeId) (pos : String) (after : Array Edge) (guard : Option (Nat × Bool)) (w : World) :
    Sem.run Try.prog (execOp ρ { dst, op := .load 25 x, type, pos, after, guard }) w = ldBm w (ρ x) := rfl
@[go_sem ↓] theorem execOp_store_Bm (ρ : Operand → Value) (dst : Option Tmp) (x y : Operand) (type : TypeId) (pos : String) (after : Array Edge) (guard : Option (Nat × Bool)) (w : World) :
    Sem.run Try.prog (execOp ρ { dst, op := .store 25 x y, type, pos, after, guard }) w = stBm w (ρ x) (ρ y) := rfl

theorem ldBm_of {w : World} {b : Nat} {k : Nat → Nat} {t : TypeId} {fr : Nat × Nat} (h : w.heap[b]? = some (.cells (kc k) t fr)) :
    ldBm w (.pointer (some ⟨b, 0, none⟩)) = .ok (.value (.agg (kc k))) w := by
  unfold ldBm
  simp only [Instr.loadAt, Instr.sureAddr, Sem.run_bind, Sem.run_pure, Result.andThen_ok]
  rw [run_loadVar_row (P := Try.prog) w b t 25 (kc k) fr (.array 32 5) h Try.underlying25 rfl (by rw [kc_size]; exact infoBm)]
  rfl
@[go_sem] theorem ldBm_new (w : World) (k : Nat → Nat) : ldBm (w.alloc (.cells (kc k) 25)) (.pointer (some ⟨w.heap.size, 0, none⟩)) = .ok (.value (.agg (kc k))) (w.alloc (.cells (kc k) 25)) :=
  ldBm_of (heap_alloc_last w _)

theorem stBm_of {w : World} {b : Nat} {k k' : Nat → Nat} {t : TypeId} (h : w.heap[b]? = some (.cells (kc k) t (0, 0))) :
    stBm w (.pointer (some ⟨b, 0, none⟩)) (.agg (kc k')) = .ok .skip (w.setRow b (kc k')) := by
  unfold stBm
  simp only [Instr.storeAt, Instr.sureAddr, Sem.run_bind, Sem.run_pure, Result.andThen_ok]
  rw [run_storeVar_row (P := Try.prog) w b t 25 (kc k) (kc k') h (by rw [kc_size]; exact infoBm) (by rw [kc_size, kc_size]) (oneCell_key k')]
  rfl

@[go_sem] theorem stBm_new (w : World) (k k' : Nat → Nat) : stBm (w.alloc (.cells (kc k) 25)) (.pointer (some ⟨w.heap.size, 0, none⟩)) (.agg (kc k')) = .ok .skip (w.alloc (.cells (kc k') 25)) := by
  rw [stBm_of (heap_alloc_last w _), World.setRow_alloc_new]
@[go_sem] theorem stBm_two (w : World) (o : Obj) (k k' : Nat → Nat) : stBm ((w.alloc o).alloc (.cells (kc k) 25)) (.pointer (some ⟨w.heap.size + 1, 0, none⟩)) (.agg (kc k')) = .ok .skip ((w.alloc o).alloc (.cells (kc k') 25)) := by
  have := stBm_new (w.alloc o) k k'
  rwa [show (w.alloc o).heap.size = w.heap.size + 1 by simp] at this

@[go_sem] theorem stBm_two_old (w : World) (o : Obj) (k k' : Nat → Nat) : stBm ((w.alloc (.cells (kc k) 25)).alloc o) (.pointer (some ⟨w.heap.size, 0, none⟩)) (.agg (kc k')) = .ok .skip ((w.alloc (.cells (kc k') 25)).alloc o) := by
  rw [stBm_of (heap_alloc2_old w _ _), setRow_two]

@[go_sem] theorem ldBm_new_d (w : World) (k : Nat → Nat) (n : Nat) : ldBm ((w.alloc (.cells (kc k) 25)).drewN n) (.pointer (some ⟨w.heap.size, 0, none⟩)) = .ok (.value (.agg (kc k))) ((w.alloc (.cells (kc k) 25)).drewN n) :=
  ldBm_of (heap_alloc_last w _)
@[go_sem] theorem stBm_two_d (w : World) (o : Obj) (k k' : Nat → Nat) (n : Nat) : stBm (((w.alloc o).alloc (.cells (kc k) 25)).drewN n) (.pointer (some ⟨w.heap.size + 1, 0, none⟩)) (.agg (kc k')) = .ok .skip (((w.alloc o).alloc (.cells (kc k') 25)).drewN n) := by
  rw [stBm_of (w := ((w.alloc o).alloc (.cells (kc k) 25)).drewN n) (heap_alloc2_new w _ _)]
  have := World.setRow_alloc_new (w.alloc o) (kc k) (kc k') 25
  rw [show (w.alloc o).heap.size = w.heap.size + 1 by simp] at this
  rw [← this]
  rfl

def BmAt (w : World) (b : Nat) (k : Nat → Nat) : Prop := w.heap[b]? = some (.cells (kc k) 25 (0, 0))
theorem BmAt.cell {w : World} {b : Nat} {k : Nat → Nat} (h : BmAt w b k) {j : Nat} (hj : j < 32) : w.cell? ⟨b, j, none⟩ = some (.int .u8 (k j)) := by
  rw [cell_of_row _ _ _ _ _ _ h]; exact kc_at k _ hj
theorem BmAt.free {w : World} {b : Nat} {k : Nat → Nat} (h : BmAt w b k) (j : Nat) : w.frozen? ⟨b, j, none⟩ = false := frozen_of_row w b j _ _ h
theorem BmAt.ld {w : World} {b : Nat} {k : Nat → Nat} (h : BmAt w b k) : ldBm w (.pointer (some ⟨b, 0, none⟩)) = .ok (.value (.agg (kc k))) w := ldBm_of h
theorem BmAt.st {w : World} {b : Nat} {k : Nat → Nat} (h : BmAt w b k) (k' : Nat → Nat) : stBm w (.pointer (some ⟨b, 0, none⟩)) (.agg (kc k')) = .ok .skip (w.setRow b (kc k')) := stBm_of h
theorem BmAt.set {w : World} {b : Nat} {k : Nat → Nat} (h : BmAt w b k) (j x : Nat) : BmAt (w.setCell ⟨b, j, none⟩ (.int .u8 x)) b (upd k j x) := by
  have := heap_setCell_same w b j (kc k) 25 (.int .u8 x) h
  rwa [kc_set] at this
theorem BmAt.set_other {w : World} {b c : Nat} {k : Nat → Nat} (h : BmAt w b k) (hne : b ≠ c) (j : Nat) (v : Value) : BmAt (w.setCell ⟨c, j, none⟩ v) b k := by
  unfold BmAt
  rw [heap_setCell_other _ _ _ _ hne]
  exact h
theorem BmAt.row {w : World} {b : Nat} {k : Nat → Nat} (h : BmAt w b k) (k' : Nat → Nat) : BmAt (w.setRow b (kc k')) b k' := setRow_heap w b _ _ 25 _ h
theorem BmAt.row_other {w : World} {b c : Nat} {k : Nat → Nat} (h : BmAt w b k) (hne : b ≠ c) (x : Array Value) : BmAt (w.setRow c x) b k := by
  unfold BmAt
  rw [setRow_other _ _ _ _ hne]
  exact h
theorem BmAt.drewN {w : World} {b : Nat} {k : Nat → Nat} (h : BmAt w b k) (n : Nat) : BmAt (w.drewN n) b k := h
theorem BmAt.lt {w : World} {b : Nat} {k : Nat → Nat} (h : BmAt w b k) : b < w.heap.size := by
  rcases Nat.lt_or_ge b w.heap.size with h' | h'
  · exact h'
  · unfold BmAt at h; rw [Array.getElem?_eq_none h'] at h; cases h
theorem BmAt.below {w w' : World} {b B : Nat} {k : Nat → Nat} (h : BmAt w b k) (hb : Below B w w') (hB : b < B) : BmAt w' b k := by
  unfold BmAt
  rw [hb.block b hB]
  exact h
theorem BmAt.congr {w : World} {b : Nat} {k k' : Nat → Nat} (h : BmAt w b k) (e : ∀ j, j < 32 → k j = k' j) : BmAt w b k' := by
  unfold BmAt
  rw [← kc_congr e]
  exact h
theorem BmAt.one (w : World) (k : Nat → Nat) : BmAt (w.alloc (.cells (kc k) 25)) w.heap.size k := heap_alloc_last w _
theorem BmAt.two (w : World) (k : Nat → Nat) (o : Obj) : BmAt ((w.alloc (.cells (kc k) 25)).alloc o) w.heap.size k := heap_alloc2_old w _ _
theorem BmAt.two' (w : World) (k : Nat → Nat) (o : Obj) : BmAt ((w.alloc o).alloc (.cells (kc k) 25)) (w.heap.size + 1) k := heap_alloc2_new w _ _
@[go_sem ↓] theorem zeroBm (w : World) : (zeroValue 25).run Try.prog w = .ok (.agg (kc kz)) w := by
  rw [Try.zeroValue25]; rfl

/-- Cells of keys in the blocks that were just made. -/
theorem Bm_cell (w : World) (k : Nat → Nat) (j : Nat) (h : j < 32) : ((w.alloc (.cells (kc k) 25)).cell? ⟨w.heap.size, j, none⟩) = some (.int .u8 (k j)) := by
  rw [cell_of_row _ _ _ _ _ _ (heap_alloc_last w _)]; exact kc_at k _ h
theorem Bm_cell2 (w : World) (o : Obj) (k : Nat → Nat) (j : Nat) (h : j < 32) : (((w.alloc (.cells (kc k) 25)).alloc o).cell? ⟨w.heap.size, j, none⟩) = some (.int .u8 (k j)) := by
  rw [cell_of_row _ _ _ _ _ _ (heap_alloc2_old w _ _)]; exact kc_at k _ h
theorem Bm_cell1 (w : World) (o : Obj) (k : Nat → Nat) (j : Nat) (h : j < 32) : (((w.alloc o).alloc (.cells (kc k) 25)).cell? ⟨w.heap.size + 1, j, none⟩) = some (.int .u8 (k j)) := by
  rw [cell_of_row _ _ _ _ _ _ (heap_alloc2_new w _ _)]; exact kc_at k _ h
@[go_sem] theorem ldBm_two (w : World) (k : Nat → Nat) (o : Obj) : ldBm ((w.alloc (.cells (kc k) 25)).alloc o) (.pointer (some ⟨w.heap.size, 0, none⟩)) = .ok (.value (.agg (kc k))) ((w.alloc (.cells (kc k) 25)).alloc o) :=
  ldBm_of (heap_alloc2_old w _ _)
@[go_sem] theorem ldBm_two' (w : World) (k : Nat → Nat) (o : Obj) : ldBm ((w.alloc o).alloc (.cells (kc k) 25)) (.pointer (some ⟨w.heap.size + 1, 0, none⟩)) = .ok (.value (.agg (kc k))) ((w.alloc o).alloc (.cells (kc k) 25)) :=
  ldBm_of (heap_alloc2_new w _ _)

@[go_sem] theorem ldBm_two_d (w : World) (k : Nat → Nat) (o : Obj) (n : Nat) : ldBm (((w.alloc (.cells (kc k) 25)).alloc o).drewN n) (.pointer (some ⟨w.heap.size, 0, none⟩)) = .ok (.value (.agg (kc k))) (((w.alloc (.cells (kc k) 25)).alloc o).drewN n) :=
  ldBm_of (heap_alloc2_old w _ _)
@[go_sem] theorem ldBm_two_d' (w : World) (k : Nat → Nat) (o : Obj) (n : Nat) : ldBm (((w.alloc o).alloc (.cells (kc k) 25)).drewN n) (.pointer (some ⟨w.heap.size + 1, 0, none⟩)) = .ok (.value (.agg (kc k))) (((w.alloc o).alloc (.cells (kc k) 25)).drewN n) :=
  ldBm_of (heap_alloc2_new w _ _)

theorem Later.ldBm_one {w : World} {k : Nat → Nat} (x : Later (w.alloc (.cells (kc k) 25))) : ldBm x.w (.pointer (some ⟨w.heap.size, 0, none⟩)) = .ok (.value (.agg (kc k))) x.w :=
  ldBm_of (x.block (heap_alloc_last w _))
theorem Later.ldBm_two {w : World} {k : Nat → Nat} {o : Obj} (x : Later ((w.alloc (.cells (kc k) 25)).alloc o)) : ldBm x.w (.pointer (some ⟨w.heap.size, 0, none⟩)) = .ok (.value (.agg (kc k))) x.w :=
  ldBm_of (x.block (heap_alloc2_old w _ _))
theorem Later.ldBm_two' {w : World} {k : Nat → Nat} {o : Obj} (x : Later ((w.alloc o).alloc (.cells (kc k) 25))) : ldBm x.w (.pointer (some ⟨w.heap.size + 1, 0, none⟩)) = .ok (.value (.agg (kc k))) x.w :=
  ldBm_of (x.block (heap_alloc2_new w _ _))

set_option maxRecDepth 100000 in
@[go_sem] theorem run_equalIn_Bm (w : World) (a b : Nat → Nat) : (Op.equalIn 10000 25 (.agg (kc a)) (.agg (kc b))).run Try.prog w = .ok (keq a b) w := by
  obtain ⟨i, hi⟩ : ∃ i, Try.prog.info? 5 = some i := ⟨_, rfl⟩
  rw [show (10000 : Nat) = 9999 + 1 from rfl, run_equalIn_array w 9999 (kc a) (kc b) Try.underlying25 hi]
  have : Try.prog.cellsOf 5 = 1 := by kernel_rfl
  rw [this]
  exact run_eqItems_keys w 9998 a b _ (by simp)
/-! ### Ar -/
theorem infoAr : (Try.prog.info? 24).map (·.size) = some 32 := by kernel_rfl

noncomputable def ldAr (w : World) (v : Value) : Result Next := Sem.run Try.prog (do pure (.value (← Instr.loadAt 24 v))) w
noncomputable def stAr (w : World) (p v : Value) : Result Next := Sem.run Try.prog (do Instr.storeAt 24 p v; pure .skip) w

@[go_sem ↓] theorem execOp_load_Ar (ρ : Operand → Value) (dst : Option Tmp) (x : Operand) (type : TypeId) (pos : String) (after : Array Edge) (guard : Option (Nat × Bool)) (w : World) :
    Sem.run Try.prog (execOp ρ { dst, op := .load 24 x, type, pos, after, guard }) w = ldAr w (ρ x) := rfl
@[go_sem ↓] theorem execOp_store_Ar (ρ : Operand → Value) (dst : Option Tmp) (x y : Operand) (type : TypeId) (pos : String) (after : Array Edge) (guard : Option (Nat × Bool)) (w : World) :
    Sem.run Try.prog (execOp ρ { dst, op := .store 24 x y, type, pos, after, guard }) w = stAr w (ρ x) (ρ y) := rfl

theorem ldAr_of {w : World} {b : Nat} {k : Nat → Nat} {t : TypeId} {fr : Nat × Nat} (h : w.heap[b]? = some (.cells (kc k) t fr)) :
    ldAr w (.pointer (some ⟨b, 0, none⟩)) = .ok (.value (.agg (kc k))) w := by
  unfold ldAr
  simp only [Instr.loadAt, Instr.sureAddr, Sem.run_bind, Sem.run_pure, Result.andThen_ok]
  rw [run_loadVar_row (P := Try.prog) w b t 24 (kc k) fr (.array 32 5) h Try.underlying24 rfl (by rw [kc_size]; exact infoAr)]
  rfl
@[go_sem] theorem ldAr_new (w : World) (k : Nat → Nat) : ldAr (w.alloc (.cells (kc k) 24)) (.pointer (some ⟨w.heap.size, 0, none⟩)) = .ok (.value (.agg (kc k))) (w.alloc (.cells (kc k) 24)) :=
  ldAr_of (heap_alloc_last w _)

theorem stAr_of {w : World} {b : Nat} {k k' : Nat → Nat} {t : TypeId} (h : w.heap[b]? = some (.cells (kc k) t (0, 0))) :
    stAr w (.pointer (some ⟨b, 0, none⟩)) (.agg (kc k')) = .ok .skip (w.setRow b (kc k')) := by
  unfold stAr
  simp only [Instr.storeAt, Instr.sureAddr, Sem.run_bind, Sem.run_pure, Result.andThen_ok]
  rw [run_storeVar_row (P := Try.prog) w b t 24 (kc k) (kc k') h (by rw [kc_size]; exact infoAr) (by rw [kc_size, kc_size]) (oneCell_key k')]
  rfl

@[go_sem] theorem stAr_new (w : World) (k k' : Nat → Nat) : stAr (w.alloc (.cells (kc k) 24)) (.pointer (some ⟨w.heap.size, 0, none⟩)) (.agg (kc k')) = .ok .skip (w.alloc (.cells (kc k') 24)) := by
  rw [stAr_of (heap_alloc_last w _), World.setRow_alloc_new]
@[go_sem] theorem stAr_two (w : World) (o : Obj) (k k' : Nat → Nat) : stAr ((w.alloc o).alloc (.cells (kc k) 24)) (.pointer (some ⟨w.heap.size + 1, 0, none⟩)) (.agg (kc k')) = .ok .skip ((w.alloc o).alloc (.cells (kc k') 24)) := by
  have := stAr_new (w.alloc o) k k'
  rwa [show (w.alloc o).heap.size = w.heap.size + 1 by simp] at this

@[go_sem] theorem stAr_two_old (w : World) (o : Obj) (k k' : Nat → Nat) : stAr ((w.alloc (.cells (kc k) 24)).alloc o) (.pointer (some ⟨w.heap.size, 0, none⟩)) (.agg (kc k')) = .ok .skip ((w.alloc (.cells (kc k') 24)).alloc o) := by
  rw [stAr_of (heap_alloc2_old w _ _), setRow_two]

@[go_sem] theorem ldAr_new_d (w : World) (k : Nat → Nat) (n : Nat) : ldAr ((w.alloc (.cells (kc k) 24)).drewN n) (.pointer (some ⟨w.heap.size, 0, none⟩)) = .ok (.value (.agg (kc k))) ((w.alloc (.cells (kc k) 24)).drewN n) :=
  ldAr_of (heap_alloc_last w _)
@[go_sem] theorem stAr_two_d (w : World) (o : Obj) (k k' : Nat → Nat) (n : Nat) : stAr (((w.alloc o).alloc (.cells (kc k) 24)).drewN n) (.pointer (some ⟨w.heap.size + 1, 0, none⟩)) (.agg (kc k')) = .ok .skip (((w.alloc o).alloc (.cells (kc k') 24)).drewN n) := by
  rw [stAr_of (w := ((w.alloc o).alloc (.cells (kc k) 24)).drewN n) (heap_alloc2_new w _ _)]
  have := World.setRow_alloc_new (w.alloc o) (kc k) (kc k') 24
  rw [show (w.alloc o).heap.size = w.heap.size + 1 by simp] at this
  rw [← this]
  rfl

def ArAt (w : World) (b : Nat) (k : Nat → Nat) : Prop := w.heap[b]? = some (.cells (kc k) 24 (0, 0))
theorem ArAt.cell {w : World} {b : Nat} {k : Nat → Nat} (h : ArAt w b k) {j : Nat} (hj : j < 32) : w.cell? ⟨b, j, none⟩ = some (.int .u8 (k j)) := by
  rw [cell_of_row _ _ _ _ _ _ h]; exact kc_at k _ hj
theorem ArAt.free {w : World} {b : Nat} {k : Nat → Nat} (h : ArAt w b k) (j : Nat) : w.frozen? ⟨b, j, none⟩ = false := frozen_of_row w b j _ _ h
theorem ArAt.ld {w : World} {b : Nat} {k : Nat → Nat} (h : ArAt w b k) : ldAr w (.pointer (some ⟨b, 0, none⟩)) = .ok (.value (.agg (kc k))) w := ldAr_of h
theorem ArAt.st {w : World} {b : Nat} {k : Nat → Nat} (h : ArAt w b k) (k' : Nat → Nat) : stAr w (.pointer (some ⟨b, 0, none⟩)) (.agg (kc k')) = .ok .skip (w.setRow b (kc k')) := stAr_of h
theorem ArAt.set {w : World} {b : Nat} {k : Nat → Nat} (h : ArAt w b k) (j x : Nat) : ArAt (w.setCell ⟨b, j, none⟩ (.int .u8 x)) b (upd k j x) := by
  have := heap_setCell_same w b j (kc k) 24 (.int .u8 x) h
  rwa [kc_set] at this
theorem ArAt.set_other {w : World} {b c : Nat} {k : Nat → Nat} (h : ArAt w b k) (hne : b ≠ c) (j : Nat) (v : Value) : ArAt (w.setCell ⟨c, j, none⟩ v) b k := by
  unfold ArAt
  rw [heap_setCell_other _ _ _ _ hne]
  exact h
theorem ArAt.row {w : World} {b : Nat} {k : Nat → Nat} (h : ArAt w b k) (k' : Nat → Nat) : ArAt (w.setRow b (kc k')) b k' := setRow_heap w b _ _ 24 _ h
theorem ArAt.row_other {w : World} {b c : Nat} {k : Nat → Nat} (h : ArAt w b k) (hne : b ≠ c) (x : Array Value) : ArAt (w.setRow c x) b k := by
  unfold ArAt
  rw [setRow_other _ _ _ _ hne]
  exact h
theorem ArAt.drewN {w : World} {b : Nat} {k : Nat → Nat} (h : ArAt w b k) (n : Nat) : ArAt (w.drewN n) b k := h
theorem ArAt.lt {w : World} {b : Nat} {k : Nat → Nat} (h : ArAt w b k) : b < w.heap.size := by
  rcases Nat.lt_or_ge b w.heap.size with h' | h'
  · exact h'
  · unfold ArAt at h; rw [Array.getElem?_eq_none h'] at h; cases h
theorem ArAt.below {w w' : World} {b B : Nat} {k : Nat → Nat} (h : ArAt w b k) (hb : Below B w w') (hB : b < B) : ArAt w' b k := by
  unfold ArAt
  rw [hb.block b hB]
  exact h
theorem ArAt.congr {w : World} {b : Nat} {k k' : Nat → Nat} (h : ArAt w b k) (e : ∀ j, j < 32 → k j = k' j) : ArAt w b k' := by
  unfold ArAt
  rw [← kc_congr e]
  exact h
theorem ArAt.one (w : World) (k : Nat → Nat) : ArAt (w.alloc (.cells (kc k) 24)) w.heap.size k := heap_alloc_last w _
theorem ArAt.two (w : World) (k : Nat → Nat) (o : Obj) : ArAt ((w.alloc (.cells (kc k) 24)).alloc o) w.heap.size k := heap_alloc2_old w _ _
theorem ArAt.two' (w : World) (k : Nat → Nat) (o : Obj) : ArAt ((w.alloc o).alloc (.cells (kc k) 24)) (w.heap.size + 1) k := heap_alloc2_new w _ _
@[go_sem ↓] theorem zeroAr (w : World) : (zeroValue 24).run Try.prog w = .ok (.agg (kc kz)) w := by
  rw [Try.zeroValue24]; rfl

/-- Cells of keys in the blocks that were just made. -/
theorem Ar_cell (w : World) (k : Nat → Nat) (j : Nat) (h : j < 32) : ((w.alloc (.cells (kc k) 24)).cell? ⟨w.heap.size, j, none⟩) = some (.int .u8 (k j)) := by
  rw [cell_of_row _ _ _ _ _ _ (heap_alloc_last w _)]; exact kc_at k _ h
theorem Ar_cell2 (w : World) (o : Obj) (k : Nat → Nat) (j : Nat) (h : j < 32) : (((w.alloc (.cells (kc k) 24)).alloc o).cell? ⟨w.heap.size, j, none⟩) = some (.int .u8 (k j)) := by
  rw [cell_of_row _ _ _ _ _ _ (heap_alloc2_old w _ _)]; exact kc_at k _ h
theorem Ar_cell1 (w : World) (o : Obj) (k : Nat → Nat) (j : Nat) (h : j < 32) : (((w.alloc o).alloc (.cells (kc k) 24)).cell? ⟨w.heap.size + 1, j, none⟩) = some (.int .u8 (k j)) := by
  rw [cell_of_row _ _ _ _ _ _ (heap_alloc2_new w _ _)]; exact kc_at k _ h
@[go_sem] theorem ldAr_two (w : World) (k : Nat → Nat) (o : Obj) : ldAr ((w.alloc (.cells (kc k) 24)).alloc o) (.pointer (some ⟨w.heap.size, 0, none⟩)) = .ok (.value (.agg (kc k))) ((w.alloc (.cells (kc k) 24)).alloc o) :=
  ldAr_of (heap_alloc2_old w _ _)
@[go_sem] theorem ldAr_two' (w : World) (k : Nat → Nat) (o : Obj) : ldAr ((w.alloc o).alloc (.cells (kc k) 24)) (.pointer (some ⟨w.heap.size + 1, 0, none⟩)) = .ok (.value (.agg (kc k))) ((w.alloc o).alloc (.cells (kc k) 24)) :=
  ldAr_of (heap_alloc2_new w _ _)

@[go_sem] theorem ldAr_two_d (w : World) (k : Nat → Nat) (o : Obj) (n : Nat) : ldAr (((w.alloc (.cells (kc k) 24)).alloc o).drewN n) (.pointer (some ⟨w.heap.size, 0, none⟩)) = .ok (.value (.agg (kc k))) (((w.alloc (.cells (kc k) 24)).alloc o).drewN n) :=
  ldAr_of (heap_alloc2_old w _ _)
@[go_sem] theorem ldAr_two_d' (w : World) (k : Nat → Nat) (o : Obj) (n : Nat) : ldAr (((w.alloc o).alloc (.cells (kc k) 24)).drewN n) (.pointer (some ⟨w.heap.size + 1, 0, none⟩)) = .ok (.value (.agg (kc k))) (((w.alloc o).alloc (.cells (kc k) 24)).drewN n) :=
  ldAr_of (heap_alloc2_new w _ _)

theorem Later.ldAr_one {w : World} {k : Nat → Nat} (x : Later (w.alloc (.cells (kc k) 24))) : ldAr x.w (.pointer (some ⟨w.heap.size, 0, none⟩)) = .ok (.value (.agg (kc k))) x.w :=
  ldAr_of (x.block (heap_alloc_last w _))
theorem Later.ldAr_two {w : World} {k : Nat → Nat} {o : Obj} (x : Later ((w.alloc (.cells (kc k) 24)).alloc o)) : ldAr x.w (.pointer (some ⟨w.heap.size, 0, none⟩)) = .ok (.value (.agg (kc k))) x.w :=
  ldAr_of (x.block (heap_alloc2_old w _ _))
theorem Later.ldAr_two' {w : World} {k : Nat → Nat} {o : Obj} (x : Later ((w.alloc o).alloc (.cells (kc k) 24))) : ldAr x.w (.pointer (some ⟨w.heap.size + 1, 0, none⟩)) = .ok (.value (.agg (kc k))) x.w :=
  ldAr_of (x.block (heap_alloc2_new w _ _))

set_option maxRecDepth 100000 in
@[go_sem] theorem run_equalIn_Ar (w : World) (a b : Nat → Nat) : (Op.equalIn 10000 24 (.agg (kc a)) (.agg (kc b))).run Try.prog w = .ok (keq a b) w := by
  obtain ⟨i, hi⟩ : ∃ i, Try.prog.info? 5 = some i := ⟨_, rfl⟩
  rw [show (10000 : Nat) = 9999 + 1 from rfl, run_equalIn_array w 9999 (kc a) (kc b) Try.underlying24 hi]
  have : Try.prog.cellsOf 5 = 1 := by kernel_rfl
  rw [this]
  exact run_eqItems_keys w 9998 a b _ (by simp)
end Go.Proofs.Ytpdmkojclgkcnaa.Bt
