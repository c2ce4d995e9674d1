import Derived.Test.YtjgdindjimbfeaaGreatDoorM3
import Derived.Deep.AppendLies
import Derived.Deep.AppendSrc
import Derived.Laws.AppendOwn
import Derived.Deep.LoopGhost
set_option linter.unusedSimpArgs false
set_option linter.unusedVariables false
set_option maxHeartbeats 1000000
set_option maxRecDepth 100000
namespace Go.Proofs.YtjgdindjimbfeaaGreatDoor.Bt
open Go.RowKit
theorem infoBm : (Tryz.prog.info? 119).map (·.size) = some 32 := by kernel_rfl
noncomputable def ldBm (w : World) (v : Value) : Result Next := Sem.run Tryz.prog (do pure (.value (← Instr.loadAt 119 v))) w
noncomputable def stBm (w : World) (p v : Value) : Result Next := Sem.run Tryz.prog (do Instr.storeAt 119 p v; pure .skip) w
@[go_sem ↓] theorem execOp_load_Bm (ρ : Operand → Value) (dst : Option Tmp) (x : Operand) (type : TypeId) (pos : String) (after : Array Edge) (guard : Option (Nat × Bool)) (w : World) :
  Sem.run Tryz.prog (execOp ρ { dst, op := .load 119 x, type, pos, after, guard }) w = ldBm w (ρ x) := rfl
@[go_sem ↓] theorem execOp_store_Bm (ρ : Operand → Value) (dst : Option Tmp) (x y : Operand) (type : TypeId) (pos : String) (after : Array Edge) (guard : Option (Nat × Bool)) (w : World) :
  Sem.run Tryz.prog (execOp ρ { dst, op := .store 119 x y, type, pos, after, guard }) w = stBm w (ρ x) (ρ y) := rfl
theorem ldBm_of {w : World} {b : Nat} {k : Nat → Nat} {t : TypeId} {fr : Nat × Nat} (h : w.heap[b]? = some (.cells (kc k) t fr)) :
  ldBm w (.pointer (some ⟨b, 0, none⟩)) = .ok (.value (.agg (kc k))) w := by
 unfold ldBm
 simp only [Instr.loadAt, Instr.sureAddr, Sem.run_bind, Sem.run_pure, Result.andThen_ok]
 rw [run_loadVar_row (P := Tryz.prog) w b t 119 (kc k) fr (.array 32 5) h Tryz.underlying119 rfl (by rw [kc_size]; exact infoBm)]
 rfl
@[go_sem] theorem ldBm_new (w : World) (k : Nat → Nat) : ldBm (w.alloc (.cells (kc k) 119)) (.pointer (some ⟨w.heap.size, 0, none⟩)) = .ok (.value (.agg (kc k))) (w.alloc (.cells (kc k) 119)) :=
 ldBm_of (heap_alloc_last w _)
theorem stBm_of {w : World} {b : Nat} {k k' : Nat → Nat} {t : TypeId} (h : w.heap[b]? = some (.cells (kc k) t (0, 0))) :
  stBm w (.pointer (some ⟨b, 0, none⟩)) (.agg (kc k')) = .ok .skip (w.setRow b (kc k')) := by
 unfold stBm
 simp only [Instr.storeAt, Instr.sureAddr, Sem.run_bind, Sem.run_pure, Result.andThen_ok]
 rw [run_storeVar_row (P := Tryz.prog) w b t 119 (kc k) (kc k') h (by rw [kc_size]; exact infoBm) (by rw [kc_size, kc_size]) (oneCell_key k')]
 rfl
@[go_sem] theorem stBm_new (w : World) (k k' : Nat → Nat) : stBm (w.alloc (.cells (kc k) 119)) (.pointer (some ⟨w.heap.size, 0, none⟩)) (.agg (kc k')) = .ok .skip (w.alloc (.cells (kc k') 119)) := by
 rw [stBm_of (heap_alloc_last w _), World.setRow_alloc_new]
@[go_sem] theorem stBm_two (w : World) (o : Obj) (k k' : Nat → Nat) : stBm ((w.alloc o).alloc (.cells (kc k) 119)) (.pointer (some ⟨w.heap.size + 1, 0, none⟩)) (.agg (kc k')) = .ok .skip ((w.alloc o).alloc (.cells (kc k') 119)) := by
 have := stBm_new (w.alloc o) k k'
 rwa [show (w.alloc o).heap.size = w.heap.size + 1 by simp] at this
@[go_sem] theorem stBm_two_old (w : World) (o : Obj) (k k' : Nat → Nat) : stBm ((w.alloc (.cells (kc k) 119)).alloc o) (.pointer (some ⟨w.heap.size, 0, none⟩)) (.agg (kc k')) = .ok .skip ((w.alloc (.cells (kc k') 119)).alloc o) := by
 rw [stBm_of (heap_alloc2_old w _ _), setRow_two]
@[go_sem] theorem ldBm_new_d (w : World) (k : Nat → Nat) (n : Nat) : ldBm ((w.alloc (.cells (kc k) 119)).drewN n) (.pointer (some ⟨w.heap.size, 0, none⟩)) = .ok (.value (.agg (kc k))) ((w.alloc (.cells (kc k) 119)).drewN n) :=
 ldBm_of (heap_alloc_last w _)
@[go_sem] theorem stBm_two_d (w : World) (o : Obj) (k k' : Nat → Nat) (n : Nat) : stBm (((w.alloc o).alloc (.cells (kc k) 119)).drewN n) (.pointer (some ⟨w.heap.size + 1, 0, none⟩)) (.agg (kc k')) = .ok .skip (((w.alloc o).alloc (.cells (kc k') 119)).drewN n) := by
 rw [stBm_of (w := ((w.alloc o).alloc (.cells (kc k) 119)).drewN n) (heap_alloc2_new w _ _)]
 have := World.setRow_alloc_new (w.alloc o) (kc k) (kc k') 119
 rw [show (w.alloc o).heap.size = w.heap.size + 1 by simp] at this
 rw [← this]
 rfl
def BmAt (w : World) (b : Nat) (k : Nat → Nat) : Prop := w.heap[b]? = some (.cells (kc k) 119 (0, 0))
theorem BmAt.cell {w : World} {b : Nat} {k : Nat → Nat} (h : BmAt w b k) {j : Nat} (hj : j < 32) : w.cell? ⟨b, j, none⟩ = some (.int .u8 (k j)) := by
 rw [cell_of_row _ _ _ _ _ _ h]; exact kc_at k _ hj
theorem BmAt.ld {w : World} {b : Nat} {k : Nat → Nat} (h : BmAt w b k) : ldBm w (.pointer (some ⟨b, 0, none⟩)) = .ok (.value (.agg (kc k))) w := ldBm_of h
theorem BmAt.st {w : World} {b : Nat} {k : Nat → Nat} (h : BmAt w b k) (k' : Nat → Nat) : stBm w (.pointer (some ⟨b, 0, none⟩)) (.agg (kc k')) = .ok .skip (w.setRow b (kc k')) := stBm_of h
theorem BmAt.row {w : World} {b : Nat} {k : Nat → Nat} (h : BmAt w b k) (k' : Nat → Nat) : BmAt (w.setRow b (kc k')) b k' := setRow_heap w b _ _ 119 _ h
theorem BmAt.drewN {w : World} {b : Nat} {k : Nat → Nat} (h : BmAt w b k) (n : Nat) : BmAt (w.drewN n) b k := h
theorem BmAt.lt {w : World} {b : Nat} {k : Nat → Nat} (h : BmAt w b k) : b < w.heap.size := by
 rcases Nat.lt_or_ge b w.heap.size with h' | h'
 ·exact h'
 ·unfold BmAt at h; rw [Array.getElem?_eq_none h'] at h; cases h
theorem BmAt.below {w w' : World} {b B : Nat} {k : Nat → Nat} (h : BmAt w b k) (hb : Below B w w') (hB : b < B) : BmAt w' b k := by
 unfold BmAt
 rw [hb.block b hB]
 exact h
theorem BmAt.one (w : World) (k : Nat → Nat) : BmAt (w.alloc (.cells (kc k) 119)) w.heap.size k := heap_alloc_last w _
theorem BmAt.two (w : World) (k : Nat → Nat) (o : Obj) : BmAt ((w.alloc (.cells (kc k) 119)).alloc o) w.heap.size k := heap_alloc2_old w _ _
theorem BmAt.two' (w : World) (k : Nat → Nat) (o : Obj) : BmAt ((w.alloc o).alloc (.cells (kc k) 119)) (w.heap.size + 1) k := heap_alloc2_new w _ _
@[go_sem ↓] theorem zeroBm (w : World) : (zeroValue 119).run Tryz.prog w = .ok (.agg (kc kz)) w := by
 rw [Tryz.zeroValue119]; rfl
@[go_sem] theorem ldBm_two (w : World) (k : Nat → Nat) (o : Obj) : ldBm ((w.alloc (.cells (kc k) 119)).alloc o) (.pointer (some ⟨w.heap.size, 0, none⟩)) = .ok (.value (.agg (kc k))) ((w.alloc (.cells (kc k) 119)).alloc o) :=
 ldBm_of (heap_alloc2_old w _ _)
@[go_sem] theorem ldBm_two' (w : World) (k : Nat → Nat) (o : Obj) : ldBm ((w.alloc o).alloc (.cells (kc k) 119)) (.pointer (some ⟨w.heap.size + 1, 0, none⟩)) = .ok (.value (.agg (kc k))) ((w.alloc o).alloc (.cells (kc k) 119)) :=
 ldBm_of (heap_alloc2_new w _ _)
@[go_sem] theorem ldBm_two_d (w : World) (k : Nat → Nat) (o : Obj) (n : Nat) : ldBm (((w.alloc (.cells (kc k) 119)).alloc o).drewN n) (.pointer (some ⟨w.heap.size, 0, none⟩)) = .ok (.value (.agg (kc k))) (((w.alloc (.cells (kc k) 119)).alloc o).drewN n) :=
 ldBm_of (heap_alloc2_old w _ _)
@[go_sem] theorem ldBm_two_d' (w : World) (k : Nat → Nat) (o : Obj) (n : Nat) : ldBm (((w.alloc o).alloc (.cells (kc k) 119)).drewN n) (.pointer (some ⟨w.heap.size + 1, 0, none⟩)) = .ok (.value (.agg (kc k))) (((w.alloc o).alloc (.cells (kc k) 119)).drewN n) :=
 ldBm_of (heap_alloc2_new w _ _)
@[go_sem] theorem run_equalIn_Bm (w : World) (a b : Nat → Nat) : (Op.equalIn 10000 119 (.agg (kc a)) (.agg (kc b))).run Tryz.prog w = .ok (keq a b) w := by
 obtain ⟨i, hi⟩ : ∃ i, Tryz.prog.info? 5 = some i := ⟨_, rfl⟩
 rw [show (10000 : Nat) = 9999 + 1 from rfl, run_equalIn_array w 9999 (kc a) (kc b) Tryz.underlying119 hi]
 have : Tryz.prog.cellsOf 5 = 1 := by kernel_rfl
 rw [this]
 exact run_eqItems_keys w 9998 a b _ (by simp)
theorem infoAr : (Tryz.prog.info? 46).map (·.size) = some 32 := by kernel_rfl
noncomputable def ldAr (w : World) (v : Value) : Result Next := Sem.run Tryz.prog (do pure (.value (← Instr.loadAt 46 v))) w
noncomputable def stAr (w : World) (p v : Value) : Result Next := Sem.run Tryz.prog (do Instr.storeAt 46 p v; pure .skip) w
@[go_sem ↓] theorem execOp_load_Ar (ρ : Operand → Value) (dst : Option Tmp) (x : Operand) (type : TypeId) (pos : String) (after : Array Edge) (guard : Option (Nat × Bool)) (w : World) :
  Sem.run Tryz.prog (execOp ρ { dst, op := .load 46 x, type, pos, after, guard }) w = ldAr w (ρ x) := rfl
@[go_sem ↓] theorem execOp_store_Ar (ρ : Operand → Value) (dst : Option Tmp) (x y : Operand) (type : TypeId) (pos : String) (after : Array Edge) (guard : Option (Nat × Bool)) (w : World) :
  Sem.run Tryz.prog (execOp ρ { dst, op := .store 46 x y, type, pos, after, guard }) w = stAr w (ρ x) (ρ y) := rfl
theorem ldAr_of {w : World} {b : Nat} {k : Nat → Nat} {t : TypeId} {fr : Nat × Nat} (h : w.heap[b]? = some (.cells (kc k) t fr)) :
  ldAr w (.pointer (some ⟨b, 0, none⟩)) = .ok (.value (.agg (kc k))) w := by
 unfold ldAr
 simp only [Instr.loadAt, Instr.sureAddr, Sem.run_bind, Sem.run_pure, Result.andThen_ok]
 rw [run_loadVar_row (P := Tryz.prog) w b t 46 (kc k) fr (.array 32 5) h Tryz.underlying46 rfl (by rw [kc_size]; exact infoAr)]
 rfl
@[go_sem] theorem ldAr_new (w : World) (k : Nat → Nat) : ldAr (w.alloc (.cells (kc k) 46)) (.pointer (some ⟨w.heap.size, 0, none⟩)) = .ok (.value (.agg (kc k))) (w.alloc (.cells (kc k) 46)) :=
 ldAr_of (heap_alloc_last w _)
theorem stAr_of {w : World} {b : Nat} {k k' : Nat → Nat} {t : TypeId} (h : w.heap[b]? = some (.cells (kc k) t (0, 0))) :
  stAr w (.pointer (some ⟨b, 0, none⟩)) (.agg (kc k')) = .ok .skip (w.setRow b (kc k')) := by
 unfold stAr
 simp only [Instr.storeAt, Instr.sureAddr, Sem.run_bind, Sem.run_pure, Result.andThen_ok]
 rw [run_storeVar_row (P := Tryz.prog) w b t 46 (kc k) (kc k') h (by rw [kc_size]; exact infoAr) (by rw [kc_size, kc_size]) (oneCell_key k')]
 rfl
@[go_sem] theorem stAr_new (w : World) (k k' : Nat → Nat) : stAr (w.alloc (.cells (kc k) 46)) (.pointer (some ⟨w.heap.size, 0, none⟩)) (.agg (kc k')) = .ok .skip (w.alloc (.cells (kc k') 46)) := by
 rw [stAr_of (heap_alloc_last w _), World.setRow_alloc_new]
@[go_sem] theorem stAr_two (w : World) (o : Obj) (k k' : Nat → Nat) : stAr ((w.alloc o).alloc (.cells (kc k) 46)) (.pointer (some ⟨w.heap.size + 1, 0, none⟩)) (.agg (kc k')) = .ok .skip ((w.alloc o).alloc (.cells (kc k') 46)) := by
 have := stAr_new (w.alloc o) k k'
 rwa [show (w.alloc o).heap.size = w.heap.size + 1 by simp] at this
@[go_sem] theorem stAr_two_old (w : World) (o : Obj) (k k' : Nat → Nat) : stAr ((w.alloc (.cells (kc k) 46)).alloc o) (.pointer (some ⟨w.heap.size, 0, none⟩)) (.agg (kc k')) = .ok .skip ((w.alloc (.cells (kc k') 46)).alloc o) := by
 rw [stAr_of (heap_alloc2_old w _ _), setRow_two]
@[go_sem] theorem ldAr_new_d (w : World) (k : Nat → Nat) (n : Nat) : ldAr ((w.alloc (.cells (kc k) 46)).drewN n) (.pointer (some ⟨w.heap.size, 0, none⟩)) = .ok (.value (.agg (kc k))) ((w.alloc (.cells (kc k) 46)).drewN n) :=
 ldAr_of (heap_alloc_last w _)
@[go_sem] theorem stAr_two_d (w : World) (o : Obj) (k k' : Nat → Nat) (n : Nat) : stAr (((w.alloc o).alloc (.cells (kc k) 46)).drewN n) (.pointer (some ⟨w.heap.size + 1, 0, none⟩)) (.agg (kc k')) = .ok .skip (((w.alloc o).alloc (.cells (kc k') 46)).drewN n) := by
 rw [stAr_of (w := ((w.alloc o).alloc (.cells (kc k) 46)).drewN n) (heap_alloc2_new w _ _)]
 have := World.setRow_alloc_new (w.alloc o) (kc k) (kc k') 46
 rw [show (w.alloc o).heap.size = w.heap.size + 1 by simp] at this
 rw [← this]
 rfl
def ArAt (w : World) (b : Nat) (k : Nat → Nat) : Prop := w.heap[b]? = some (.cells (kc k) 46 (0, 0))
theorem ArAt.cell {w : World} {b : Nat} {k : Nat → Nat} (h : ArAt w b k) {j : Nat} (hj : j < 32) : w.cell? ⟨b, j, none⟩ = some (.int .u8 (k j)) := by
 rw [cell_of_row _ _ _ _ _ _ h]; exact kc_at k _ hj
theorem ArAt.drewN {w : World} {b : Nat} {k : Nat → Nat} (h : ArAt w b k) (n : Nat) : ArAt (w.drewN n) b k := h
theorem ArAt.two (w : World) (k : Nat → Nat) (o : Obj) : ArAt ((w.alloc (.cells (kc k) 46)).alloc o) w.heap.size k := heap_alloc2_old w _ _
@[go_sem ↓] theorem zeroAr (w : World) : (zeroValue 46).run Tryz.prog w = .ok (.agg (kc kz)) w := by
 rw [Tryz.zeroValue46]; rfl
@[go_sem] theorem ldAr_two (w : World) (k : Nat → Nat) (o : Obj) : ldAr ((w.alloc (.cells (kc k) 46)).alloc o) (.pointer (some ⟨w.heap.size, 0, none⟩)) = .ok (.value (.agg (kc k))) ((w.alloc (.cells (kc k) 46)).alloc o) :=
 ldAr_of (heap_alloc2_old w _ _)
@[go_sem] theorem ldAr_two' (w : World) (k : Nat → Nat) (o : Obj) : ldAr ((w.alloc o).alloc (.cells (kc k) 46)) (.pointer (some ⟨w.heap.size + 1, 0, none⟩)) = .ok (.value (.agg (kc k))) ((w.alloc o).alloc (.cells (kc k) 46)) :=
 ldAr_of (heap_alloc2_new w _ _)
@[go_sem] theorem ldAr_two_d (w : World) (k : Nat → Nat) (o : Obj) (n : Nat) : ldAr (((w.alloc (.cells (kc k) 46)).alloc o).drewN n) (.pointer (some ⟨w.heap.size, 0, none⟩)) = .ok (.value (.agg (kc k))) (((w.alloc (.cells (kc k) 46)).alloc o).drewN n) :=
 ldAr_of (heap_alloc2_old w _ _)
@[go_sem] theorem ldAr_two_d' (w : World) (k : Nat → Nat) (o : Obj) (n : Nat) : ldAr (((w.alloc o).alloc (.cells (kc k) 46)).drewN n) (.pointer (some ⟨w.heap.size + 1, 0, none⟩)) = .ok (.value (.agg (kc k))) (((w.alloc o).alloc (.cells (kc k) 46)).drewN n) :=
 ldAr_of (heap_alloc2_new w _ _)
@[go_sem] theorem run_equalIn_Ar (w : World) (a b : Nat → Nat) : (Op.equalIn 10000 46 (.agg (kc a)) (.agg (kc b))).run Tryz.prog w = .ok (keq a b) w := by
 obtain ⟨i, hi⟩ : ∃ i, Tryz.prog.info? 5 = some i := ⟨_, rfl⟩
 rw [show (10000 : Nat) = 9999 + 1 from rfl, run_equalIn_array w 9999 (kc a) (kc b) Tryz.underlying46 hi]
 have : Tryz.prog.cellsOf 5 = 1 := by kernel_rfl
 rw [this]
 exact run_eqItems_keys w 9998 a b _ (by simp)
end Go.Proofs.YtjgdindjimbfeaaGreatDoor.Bt
namespace Go.Proofs.YtjgdindjimbfeaaGreatDoor.Bt
open Go.RowKit
def hasK (k : Nat → Nat) (i : Int) : Bool := bitI k i == 1
def insK (k : Nat → Nat) (i : Int) : Nat → Nat := if hasK k i = true then k else flipI k i
def ofFrom (k : Nat → Nat) (l : List Int) : Nat → Nat := l.foldl insK k
def ofK (l : List Int) : Nat → Nat := ofFrom kz l
def setZ (k : Nat → Nat) : Nat → List Int
 | 0 => []
 | n + 1 => if bit k n = 1 then setZ k n ++ [(n : Int)] else setZ k n
def lastTo (k : Nat → Nat) : Nat → Int
 | 0 => -1
 | n + 1 => if bit k n = 1 then (n : Int) else lastTo k n
theorem kz_byt : Byt kz := fun _ => by unfold kz; omega
theorem bit_kz (j : Nat) : bit kz j = 0 := by unfold bit kz; simp
theorem bitI_in (k : Nat → Nat) (i : Nat) (h : i < 256) : bitI k (i : Int) = (bit k i : Int) := by
 unfold bitI; rw [if_pos (by omega), Int.toNat_natCast]
theorem bitI_out (k : Nat → Nat) (i : Int) (h : i < 0 ∨ 256 ≤ i) : bitI k i = -1 := by
 unfold bitI; rw [if_neg (by omega)]
theorem hasK_in (k : Nat → Nat) (i : Nat) (h : i < 256) : hasK k (i : Int) = decide (bit k i = 1) := by
 unfold hasK; rw [bitI_in k i h]
 have := bit_lt k i
 by_cases e : bit k i = 1
 ·rw [e]; rfl
 ·rw [show bit k i = 0 by omega]; rfl
theorem hasK_out (k : Nat → Nat) (i : Int) (h : i < 0 ∨ 256 ≤ i) : hasK k i = false := by unfold hasK; rw [bitI_out k i h]; rfl
theorem flipI_out (k : Nat → Nat) (i : Int) (h : i < 0 ∨ 256 ≤ i) : flipI k i = k := by unfold flipI; rw [if_neg (by omega)]
theorem flipI_in (k : Nat → Nat) (i : Nat) (h : i < 256) : flipI k (i : Int) = flip k i := by unfold flipI; rw [if_pos (by omega), Int.toNat_natCast]
theorem insK_byt {k : Nat → Nat} (h : Byt k) (i : Int) : Byt (insK k i) := by
 unfold insK; split
 ·exact h
 ·exact flipI_byt h i
theorem ofFrom_byt : ∀ (l : List Int) {k : Nat → Nat}, Byt k → Byt (ofFrom k l)
 | [], _, h => h
 | x :: l, _, h => ofFrom_byt l (insK_byt h x)
theorem ofK_byt (l : List Int) : Byt (ofK l) := ofFrom_byt l kz_byt
theorem insK_out (k : Nat → Nat) (i : Int) (h : i < 0 ∨ 256 ≤ i) : insK k i = k := by unfold insK; rw [hasK_out k i h, if_neg (by simp), flipI_out k i h]
theorem insK_yes (k : Nat → Nat) (i : Nat) (h : i < 256) (hb : bit k i = 1) : insK k i = k := by unfold insK; rw [hasK_in k i h, if_pos (by simpa using hb)]
theorem insK_no (k : Nat → Nat) (i : Nat) (h : i < 256) (hb : bit k i = 0) : insK k i = flip k i := by unfold insK; rw [hasK_in k i h, if_neg (by simp [hb]), flipI_in k i h]
theorem bit_01 (k : Nat → Nat) (i : Nat) : bit k i = 0 ∨ bit k i = 1 := by have := bit_lt k i; omega
theorem nat_of (i : Int) : (i < 0 ∨ 256 ≤ i) ∨ ∃ n : Nat, i = n ∧ n < 256 := by
 by_cases h : i < 0 ∨ 256 ≤ i
 ·exact .inl h
 ·exact .inr ⟨i.toNat, by omega, by omega⟩
theorem bit_insK (k : Nat → Nat) (i : Int) (j : Nat) (hj : j < 256) : bit (insK k i) j = if (j : Int) = i then 1 else bit k j := by
 rcases nat_of i with h | ⟨n, rfl, h⟩
 ·rw [insK_out k i h, if_neg (by omega)]
 ·rcases bit_01 k n with hb | hb
  ·rw [insK_no k n h hb, bit_flip, hb]
   by_cases e : j = n
   ·subst e; simp
   ·rw [if_neg e, if_neg (by omega)]
  ·rw [insK_yes k n h hb]
   by_cases e : j = n
   ·subst e; simp [hb]
   ·rw [if_neg (by omega)]
theorem bit_ofFrom (j : Nat) (hj : j < 256) : ∀ (l : List Int) (k : Nat → Nat), bit (ofFrom k l) j = if (j : Int) ∈ l then 1 else bit k j
 | [], k => by simp [ofFrom]
 | x :: l, k => by
  show bit (ofFrom (insK k x) l) j = _
  rw [bit_ofFrom j hj l, bit_insK k x j hj]
  by_cases h : (j : Int) ∈ l
  ·rw [if_pos h, if_pos (by simp [h])]
  ·rw [if_neg h]
   by_cases e : (j : Int) = x
   ·rw [if_pos e, if_pos (by simp [e])]
   ·rw [if_neg e, if_neg (by simp [h, e])]
theorem bit_ofK (l : List Int) (j : Nat) (hj : j < 256) : bit (ofK l) j = if (j : Int) ∈ l then 1 else 0 := by
 unfold ofK; rw [bit_ofFrom j hj, bit_kz]
theorem setZ_len (k : Nat → Nat) : ∀ n, (setZ k n).length ≤ n
 | 0 => Nat.le_refl _
 | n + 1 => by
  have := setZ_len k n
  unfold setZ
  split
  ·simp; omega
  ·omega
theorem setZ_congr {a b : Nat → Nat} : ∀ n, (∀ j, j < n → bit a j = bit b j) → setZ a n = setZ b n
 | 0, _ => rfl
 | n + 1, h => by
  unfold setZ
  rw [h n (by omega), setZ_congr n fun j hj => h j (by omega)]
theorem lastTo_congr {a b : Nat → Nat} : ∀ n, (∀ j, j < n → bit a j = bit b j) → lastTo a n = lastTo b n
 | 0, _ => rfl
 | n + 1, h => by
  unfold lastTo
  rw [h n (by omega), lastTo_congr n fun j hj => h j (by omega)]
theorem lastTo_none {k : Nat → Nat} : ∀ n, lastTo k n = -1 → ∀ j, j < n → bit k j = 0
 | 0, _, j, hj => by omega
 | n + 1, h, j, hj => by
  unfold lastTo at h
  split at h
  ·omega
  ·rename_i hb
   by_cases e : j = n
   ·subst e; have := bit_lt k j; omega
   ·exact lastTo_none n h j (by omega)
theorem lastTo_some {k : Nat → Nat} (hk : Byt k) (h : keq k kz = false) : lastTo k 256 ≠ -1 := fun hl => by
 have h0 := lastTo_none 256 hl
 have : keq k kz = true := (keq_iff _ _).2 (key_ext hk kz_byt fun i hi => by rw [h0 i hi, bit_kz])
 rw [this] at h; cases h
theorem lastTo_kz {k : Nat → Nat} (h : keq k kz = true) : lastTo k 256 = -1 := by
 have h1 := (keq_iff _ _).1 h
 have : ∀ n, n ≤ 256 → lastTo k n = -1 := fun n => by
  induction n with
  | zero => intro _; rfl
  | succ n ih =>
   intro hn
   unfold lastTo
   have : bit k n = 0 := by
    unfold bit
    rw [h1 _ (by omega)]; simp [kz]
   rw [if_neg (by omega)]
   exact ih (by omega)
 exact this 256 (Nat.le_refl _)
end Go.Proofs.YtjgdindjimbfeaaGreatDoor.Bt
namespace Go.Proofs.YtjgdindjimbfeaaGreatDoor.Bt
open Go.RowKit
theorem bt_lt_heap {w : World} {b : Nat} {o : Obj} (h : w.heap[b]? = some o) : b < w.heap.size := by
 rcases Nat.lt_or_ge b w.heap.size with h' | h'
 ·exact h'
 ·rw [Array.getElem?_eq_none h'] at h; cases h
theorem wrap_inr {x : Int} (h : -9223372036854775808 ≤ x) (h2 : x < 9223372036854775808) : IntKind.i64.wrap x = x := by
 unfold IntKind.wrap
 rw [show (2 : Int) ^ IntKind.i64.bits = 18446744073709551616 from rfl, show IntKind.i64.signed = true from rfl]
 rw [show (2 : Int) ^ (IntKind.i64.bits - 1) = 9223372036854775808 from rfl]
 simp only [Bool.true_and, decide_eq_true_eq]
 split <;> omega
def zv (x : Int) : Value := .int .i64 x
def ZA (w : World) (A : Option Addr) (l : List Int) : Prop := ∀ (j : Nat) (x : Int), l[j]? = some x → ∃ b o, A = some ⟨b, o, none⟩ ∧ w.cell? ⟨b, o + j, none⟩ = some (.int .i64 x)
theorem infoZ : (Tryz.prog.info? 3).map (fun i => (i.zero, i.size, i.bytes)) = some (some (.int .i64 0), 1, 8) := by kernel_rfl
def OwnZ (w : World) (B : Nat) (v : Value) (l : List Int) : Prop := w.ownsRow B 3 1 v l.length (l.map zv)
theorem OwnZ.nil (w : World) (B : Nat) : OwnZ w B (.slice none 0 0) [] := ⟨rfl, .inl ⟨rfl, rfl⟩⟩
theorem OwnZ.below {w w' : World} {B : Nat} {v : Value} {l : List Int} (h : OwnZ w B v l) (hb : Below w.heap.size w w') : OwnZ w' B v l := by
 obtain ⟨h0, h | ⟨g, cap, cur, rfl, hg, hh, hr⟩⟩ := h
 ·exact ⟨h0, .inl h⟩
 ·exact ⟨h0, .inr ⟨g, cap, cur, rfl, hg, by rw [hb.block g (bt_lt_heap hh)]; exact hh, hr⟩⟩
theorem OwnZ.mono {w : World} {B B' : Nat} {v : Value} {l : List Int} (h : OwnZ w B v l) (hB : B' ≤ B) : OwnZ w B' v l := by
 obtain ⟨h0, h | ⟨g, cap, cur, hv, hg, hr⟩⟩ := h
 ·exact ⟨h0, .inl h⟩
 ·exact ⟨h0, .inr ⟨g, cap, cur, hv, by omega, hr⟩⟩
theorem OwnZ.ge {w : World} {B : Nat} {v : Value} {l : List Int} (h : OwnZ w B v l) : ∀ k, v.ownBlock = some k → B ≤ k := fun k hk => by
 obtain ⟨_, h | ⟨g, cap, cur, rfl, hg, _⟩⟩ := h
 ·obtain ⟨rfl, _⟩ := h; simp [Value.ownBlock] at hk
 ·simp [Value.ownBlock] at hk; omega
theorem OwnZ.is {w : World} {B : Nat} {v : Value} {l : List Int} (h : OwnZ w B v l) : ∃ A c, v = .slice A l.length c ∧ ZA w A l := by
 obtain ⟨h0, ⟨rfl, h⟩ | ⟨g, cap, cur, rfl, hg, hh, hn, hc, hs, ht⟩⟩ := h
 ·exact ⟨none, 0, by rw [h], fun i x hi => by
   have : l = [] := List.length_eq_zero_iff.1 h
   subst this; simp at hi⟩
 ·refine ⟨_, _, rfl, fun i x hi => ⟨g, 0, rfl, ?_⟩⟩
  rw [Nat.zero_add, cell_of_row _ _ _ _ _ _ hh, ← Array.getElem?_toList]
  have hlt : i < l.length := (List.getElem?_eq_some_iff.1 hi).1
  have : (cur.toList.take (l.length * 1))[i]? = some (zv x) := by rw [ht]; simp [hi]
  rw [List.getElem?_take_of_lt (by omega)] at this
  exact this
theorem wpList_pushZ {ops : Array Oper} {rest : List Oper} {o : Oper} {a : Act} {w : World} {Q : Exit → Act → World → Prop} (hgd : o.guard = none) (s x : Operand)
  (ho : o.op = .call { callee := .builtin .append, args := #[s, x], argTypes := #[99, 99] }) (B : Nat) (v : Value) (l : List Int) (hs : a.eval s = v) (hown : OwnZ w B v l) (g : Nat) (d : Int)
  (hx : a.eval x = .slice (some ⟨g, 0, none⟩) 1 1) (hr : w.cell? ⟨g, 0, none⟩ = some (.int .i64 d)) (hl : l.length ≤ 1000000) (hB : B ≤ w.heap.size)
  (h : ∀ v' w', OwnZ w' B v' (l ++ [d]) → Below B w w' → wpList Tryz.prog ops Q rest (a.put o.dst v') w') : wpList Tryz.prog ops Q (o :: rest) a w := by
 obtain ⟨i0, hi, hz0, hz1, hz2⟩ := info_parts infoZ
 refine wpList_append_own (w := w) hgd s x 99 ho B 3 i0 _ 1 8 Tryz.underlying99 hi hz0 hz1 hz2 rfl (by decide) v l.length (l.map zv) hs hown ⟨g, 0, none⟩ 1 1 [zv d] hx rfl
  (fun j u hj => ?_) (fun u hu => ?_) (by unfold maxLen; omega) (by omega) hB fun v' w' h1 h2 _ => h v' w' ?_ ?_
 ·match j, hj with
  | 0, hj =>
   simp at hj
   rw [← hj]
   simpa [Addr.add, zv] using hr
 ·simp at hu; subst hu; rfl
 ·unfold OwnZ
  rw [List.map_append, List.length_append]
  simpa using h1
 ·exact (Below.refl _ _).grown h2 hB hown.ge
end Go.Proofs.YtjgdindjimbfeaaGreatDoor.Bt
namespace Go.Proofs.YtjgdindjimbfeaaGreatDoor.Bt
open Go.RowKit
theorem has_c (k : Nat → Nat) (hk : Byt k) (i : Int) (w : World) :
  Calls Tryz.prog 87 #[.agg (kc k), .int .i64 i] w fun e w' => e = .returned (.bool (hasK k i)) ∧ Below w.heap.size w w' := by
 go_enter Tryz.func87, Tryz.ntmps87
 go_wp2_with fail
 refine (bit_c k hk i _).mono ?_
 rintro e w1 ⟨rfl, hb⟩
 have HB : Hid (Below w.heap.size w w1) := (one_below _ _).trans (hb.mono (by simp))
 clear hb hk
 go_wp2
 go_ret
 exact ⟨rfl, HB.out⟩
theorem bflip_c (k : Nat → Nat) (hk : Byt k) (i : Int) (w : World) :
  Calls Tryz.prog 101 #[.agg (kc k), .int .i64 i] w fun e w' => e = .returned (.agg (kc (flipI k i))) ∧ Below w.heap.size w w' := by
 go_enter Tryz.func101, Tryz.ntmps101
 go_wp2_with fail
 refine (flip_c k hk i _).mono ?_
 rintro e w1 ⟨rfl, hb⟩
 have HB : Hid (Below w.heap.size w w1) := (two_below _ _ _).trans (hb.mono (by simp; omega))
 have hz := (BmAt.two' w kz (.cells (kc k) 119)).below hb (by simp)
 have hs := hz.st (flipI k i)
 have HZ : Hid (BmAt (w1.setRow (w.heap.size + 1) (kc (flipI k i))) (w.heap.size + 1) (flipI k i)) := hz.row _
 clear hb hk hz
 go_wp2
 refine bodyPost_ret (v := .agg (kc (flipI k i))) ?_ rfl ⟨rfl, below_row HB.out (by omega) _⟩
 exact results_cell_row Tryz.results101 _ _ (w.heap.size + 1) 119 _ (0, 0) _ rfl HZ.out Tryz.underlying119 rfl (by rw [kc_size]; exact infoBm)
theorem with_c (k : Nat → Nat) (hk : Byt k) (i : Int) (w : World) :
  Calls Tryz.prog 58 #[.agg (kc k), .int .i64 i] w fun e w' => e = .returned (.agg (kc (insK k i))) ∧ Below w.heap.size w w' := by
 by_cases hh : hasK k i = true
 ·rw [show insK k i = k by unfold insK; rw [if_pos hh]]
  go_enter Tryz.func58, Tryz.ntmps58
  go_wp2_with fail
  refine (has_c k hk i _).mono ?_
  rintro e w1 ⟨rfl, hb⟩
  have HB : Hid (Below w.heap.size w w1) := (two_below _ _ _).trans (hb.mono (by simp; omega))
  have hz := (BmAt.two' w kz (.cells (kc k) 119)).below hb (by simp)
  have hl := ((BmAt.two w k (.cells (kc kz) 119)).below hb (by simp; omega)).ld
  have hs := hz.st k
  have HZ : Hid (BmAt (w1.setRow (w.heap.size + 1) (kc k)) (w.heap.size + 1) k) := hz.row _
  clear hb hk hz
  go_wp2
  refine bodyPost_ret (v := .agg (kc k)) ?_ rfl ⟨rfl, below_row HB.out (by omega) _⟩
  exact results_cell_row Tryz.results58 _ _ (w.heap.size + 1) 119 _ (0, 0) _ rfl HZ.out Tryz.underlying119 rfl (by rw [kc_size]; exact infoBm)
 ·have hf : hasK k i = false := by simpa using hh
  rw [show insK k i = flipI k i by unfold insK; rw [if_neg hh]]
  clear hh
  go_enter Tryz.func58, Tryz.ntmps58
  go_wp2_with fail
  refine (has_c k hk i _).mono ?_
  rintro e w1 ⟨rfl, hb⟩
  have HB : Hid (Below w.heap.size w w1) := (two_below _ _ _).trans (hb.mono (by simp; omega))
  have hz := (BmAt.two' w kz (.cells (kc k) 119)).below hb (by simp)
  have hl := ((BmAt.two w k (.cells (kc kz) 119)).below hb (by simp; omega)).ld
  have HL := Lib.hid hl
  have HK := Lib.hid hk
  have HZ := Lib.hid hz
  clear hb hk hz
  go_wp2_with fail
  refine (bflip_c k HK.out i _).mono ?_
  rintro e w2 ⟨rfl, hb⟩
  have HB2 : Hid (Below w.heap.size w w2) := HB.out.trans (hb.mono HB.out.size)
  have hz := HZ.out.below hb HZ.out.lt
  have hs := hz.st (flipI k i)
  have HZ2 : Hid (BmAt (w2.setRow (w.heap.size + 1) (kc (flipI k i))) (w.heap.size + 1) (flipI k i)) := hz.row _
  clear hb hz hl hf
  go_wp2
  refine bodyPost_ret (v := .agg (kc (flipI k i))) ?_ rfl ⟨rfl, below_row HB2.out (by omega) _⟩
  exact results_cell_row Tryz.results58 _ _ (w.heap.size + 1) 119 _ (0, 0) _ rfl HZ2.out Tryz.underlying119 rfl (by rw [kc_size]; exact infoBm)
end Go.Proofs.YtjgdindjimbfeaaGreatDoor.Bt
namespace Go.Proofs.YtjgdindjimbfeaaGreatDoor.Bt
open Go.RowKit
theorem setZ_yes {k : Nat → Nat} {n : Nat} (h : bit k n = 1) : setZ k (n + 1) = setZ k n ++ [(n : Int)] := by show (if _ then _ else _) = _; rw [if_pos h]
theorem setZ_no {k : Nat → Nat} {n : Nat} (h : bit k n = 0) : setZ k (n + 1) = setZ k n := by show (if _ then _ else _) = _; rw [if_neg (by omega)]
theorem lastTo_yes {k : Nat → Nat} {n : Nat} (h : bit k n = 1) : lastTo k (n + 1) = n := by show (if _ then _ else _) = _; rw [if_pos h]
theorem lastTo_no {k : Nat → Nat} {n : Nat} (h : bit k n = 0) : lastTo k (n + 1) = lastTo k n := by show (if _ then _ else _) = _; rw [if_neg (by omega)]
theorem hasK_yes {k : Nat → Nat} {n : Nat} (hn : n < 256) (h : bit k n = 1) : hasK k (n : Int) = true := by rw [hasK_in k n hn, h]; rfl
theorem hasK_no {k : Nat → Nat} {n : Nat} (hn : n < 256) (h : bit k n = 0) : hasK k (n : Int) = false := by rw [hasK_in k n hn, h]; rfl
theorem cell_oneZ (w : World) (x : Int) (t : TypeId) : (w.alloc (.cells #[.int .i64 x] t)).cell? ⟨w.heap.size, 0, none⟩ = some (.int .i64 x) := by
 rw [cell_of_row _ _ _ _ _ _ (heap_alloc_last w _)]; rfl
theorem list_c (k : Nat → Nat) (hk : Byt k) (w : World) :
  Calls Tryz.prog 116 #[.agg (kc k)] w fun e w' => ∃ v, e = .returned v ∧ OwnZ w' w.heap.size v (setZ k 256) ∧ Below w.heap.size w w' := by
 have HK := Lib.hid hk
 clear hk
 go_enter Tryz.func116, Tryz.ntmps116
 go_wp2
 go_loopg [3, 5] 256 (fun g v j wr => ∃ m : Nat, j = .int .i64 m ∧ m ≤ 256 ∧ 256 - m ≤ g ∧ OwnZ wr (w.heap.size + 1) v (setZ k m) ∧ BmAt wr w.heap.size k ∧ Below w.heap.size w wr)
 case atStart => exact ⟨0, rfl, by omega, by omega, OwnZ.nil _ _, BmAt.one _ _, one_below _ _⟩
 case round =>
  obtain ⟨m, rfl, hm, hg, hO, hA, hB⟩ := hrel
  have HO := Lib.hid hO
  have HA := Lib.hid hA
  have HB := Lib.hid hB
  by_cases hlt : m < 256
  ·have hd : decide ((m : Int) < 256) = true := by simp; omega
   have hl := hA.ld
   have hlen := setZ_len k m
   rcases bit_01 k m with hb | hb
   ·have hf := hasK_no hlt hb
    have HS := Lib.hid (setZ_no hb)
    clear hO hA hB hb
    go_wp2_with fail
    refine (has_c k HK.out (m : Int) _).mono ?_
    rintro e w1 ⟨rfl, hb1⟩
    have HO1 := Lib.hid (HO.out.below hb1)
    have HA1 := Lib.hid (HA.out.below hb1 HA.out.lt)
    have HB1 := Lib.hid (HB.out.trans (hb1.mono HB.out.size))
    clear hb1 hl
    go_wp2
    go_roundg (256 - (m + 1))
    case measure => omega
    case rel => exact ⟨m + 1, by go_num, by omega, by omega, by rw [HS.out]; exact HO1.out, HA1.out, HB1.out⟩
   ·have hf := hasK_yes hlt hb
    have HS := Lib.hid (setZ_yes hb)
    clear hO hA hB hb
    go_wp2_with fail
    refine (has_c k HK.out (m : Int) _).mono ?_
    rintro e w1 ⟨rfl, hb1⟩
    have HO1 := Lib.hid (HO.out.below hb1)
    have HA1 := Lib.hid (HA.out.below hb1 HA.out.lt)
    have HB1 := Lib.hid (HB.out.trans (hb1.mono HB.out.size))
    clear hb1 hl
    go_wp2_with (at_builtin; refine wpList_pushZ rfl _ _ rfl (w.heap.size + 1) _ (setZ k m) rfl (HO1.out.below (one_below _ _)) w1.heap.size (m : Int) rfl (cell_oneZ _ _ _) (by omega) (by have := HB1.out.size; have := HA1.out.lt; simp; omega) ?_)
    intro v' w2 hO2 hB2
    have HO2 := Lib.hid hO2
    have HB2 := Lib.hid ((HB1.out.alloc HB1.out.size _).trans (hB2.mono (by omega)))
    have HA2 := Lib.hid ((HA1.out.below (one_below _ _) HA1.out.lt).below hB2 (by omega))
    clear hO2 hB2
    go_wp2
    go_roundg (256 - (m + 1))
    case measure => omega
    case rel => exact ⟨m + 1, by go_num, by omega, by omega, by rw [HS.out]; exact HO2.out, HA2.out, HB2.out⟩
  ·have hd : decide ((m : Int) < 256) = false := by simp; omega
   obtain rfl : m = 256 := by omega
   clear hO hA hB
   go_wp2
   go_ret
   exact ⟨_, rfl, HO.out.mono (by omega), HB.out⟩
theorem len_c (k : Nat → Nat) (hk : Byt k) (w : World) :
  Calls Tryz.prog 89 #[.agg (kc k)] w fun e w' => e = .returned (.int .i64 (setZ k 256).length) ∧ Below w.heap.size w w' := by
 go_enter Tryz.func89, Tryz.ntmps89
 go_wp2_with fail
 refine (list_c k hk _).mono ?_
 rintro e w1 ⟨v, rfl, hO, hb⟩
 obtain ⟨A, c, rfl, _⟩ := hO.is
 have HB : Hid (Below w.heap.size w w1) := (one_below _ _).trans (hb.mono (by simp))
 clear hb hk hO
 go_wp2
 go_ret
 exact ⟨rfl, HB.out⟩
theorem last_c (k : Nat → Nat) (hk : Byt k) (w : World) :
  Calls Tryz.prog 85 #[.agg (kc k)] w fun e w' => e = .returned (.int .i64 (lastTo k 256)) ∧ Below w.heap.size w w' := by
 by_cases hz : keq k kz = true
 ·rw [lastTo_kz hz]
  clear hk
  go_enter Tryz.func85, Tryz.ntmps85
  go_wp2
  go_ret
  exact ⟨rfl, one_below _ _⟩
 ·have hz' : keq k kz = false := by simpa using hz
  have HN := Lib.hid (lastTo_some hk hz')
  have HK := Lib.hid hk
  clear hz hk
  go_enter Tryz.func85, Tryz.ntmps85
  go_wp2
  go_loopg [3] 256 (fun g j wr => ∃ m : Nat, j = .int .i64 m ∧ m < 256 ∧ m ≤ g ∧ Hid (lastTo k 256 = lastTo k (m + 1)) ∧ BmAt wr w.heap.size k ∧ Below w.heap.size w wr)
  case atStart => exact ⟨255, rfl, by omega, by omega, rfl, BmAt.one _ _, one_below _ _⟩
  case round =>
   obtain ⟨m, rfl, hm, hg, HL, hA, hB⟩ := hrel
   have HA := Lib.hid hA
   have HB := Lib.hid hB
   have hl := hA.ld
   clear hA hB
   rcases bit_01 k m with hb | hb
   ·have hf := hasK_no hm hb
    have HS := Lib.hid (lastTo_no hb)
    have hpos : 0 < m := by
     rcases Nat.eq_zero_or_pos m with h | h
     ·subst h
      exact absurd (HL.out.trans (lastTo_no hb)) HN.out
     ·exact h
    clear hb
    go_wp2_with fail
    refine (has_c k HK.out (m : Int) _).mono ?_
    rintro e w1 ⟨rfl, hb1⟩
    have HA1 := Lib.hid (HA.out.below hb1 HA.out.lt)
    have HB1 := Lib.hid (HB.out.trans (hb1.mono HB.out.size))
    clear hb1 hl
    go_wp2
    go_roundg (m - 1)
    case measure => omega
    case rel => exact ⟨m - 1, by go_num, by omega, by omega, by rw [HL.out, HS.out, show m - 1 + 1 = m by omega]; rfl, HA1.out, HB1.out⟩
   ·have hf := hasK_yes hm hb
    have HS := Lib.hid (lastTo_yes hb)
    clear hb
    go_wp2_with fail
    refine (has_c k HK.out (m : Int) _).mono ?_
    rintro e w1 ⟨rfl, hb1⟩
    have HB1 := Lib.hid (HB.out.trans (hb1.mono HB.out.size))
    clear hb1 hl
    go_wp2
    go_ret
    exact ⟨ret_int (by rw [HL.out, HS.out]), HB1.out⟩
end Go.Proofs.YtjgdindjimbfeaaGreatDoor.Bt
namespace Go.Proofs.YtjgdindjimbfeaaGreatDoor.Bt
open Go.RowKit
end Go.Proofs.YtjgdindjimbfeaaGreatDoor.Bt
