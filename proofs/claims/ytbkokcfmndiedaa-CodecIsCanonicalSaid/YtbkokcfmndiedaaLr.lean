/- The reference's LeafOf (the region by program: gen-tpl6-leafof.py). -/
import Derived.Test.YtbkokcfmndiedaaME
import Derived.Test.YtbkokcfmndiedaaM5
namespace Go.Proofs.Ytbkokcfmndiedaa
open Go.RowKit

/-- A row of bytes lies at block b, as a variable. -/
def RowB (w : World) (b : Nat) (t : TypeId) (l : List UInt8) : Prop := w.heap[b]? = some (.cells (bA l) t (0, 0))
theorem RowB.below {w w' : World} {b : Nat} {t : TypeId} {l : List UInt8} (h : RowB w b t l) (hb : Below w.heap.size w w') : RowB w' b t l := (Keep.of_below (L := fun _ => False) hb).heap h fun h => h
theorem RowB.alloc (w : World) (l : List UInt8) (t : TypeId) : RowB (w.alloc (.cells (bA l) t)) w.heap.size t l := heap_alloc_new w _
theorem RowB.ldLeaf {w : World} {b : Nat} {l : List UInt8} (h : RowB w b 26 l) (hl : l.length = 64) : ldA 26 w (.pointer (some ⟨b, 0, none⟩)) = .ok (.value (.agg (bA l))) w := by
  unfold ldA
  simp only [Instr.loadAt, Instr.sureAddr, Sem.run_bind, Sem.run_pure, Result.andThen_ok]
  rw [run_loadVar_row (P := Try.prog) w b 26 26 (bA l) (0, 0) _ h Try.underlying26 rfl (by rw [bA_size, hl]; exact infoLeaf)]
  rfl
theorem RowB.ldDig {w : World} {b : Nat} {t : TypeId} {l : List UInt8} (h : RowB w b t l) (hl : l.length = 32) : ldA 24 w (.pointer (some ⟨b, 0, none⟩)) = .ok (.value (.agg (bA l))) w :=
  ldA_row h Try.underlying24 (by rw [bA_size, hl]; exact info26)
theorem keeps {W w w' : World} (h : Below W.heap.size W w) (hb : Below w.heap.size w w') : Below W.heap.size W w' := h.trans (hb.mono h.size)
theorem RowB.ldKey {w : World} {b : Nat} {t : TypeId} {l : List UInt8} (h : RowB w b t l) (hl : l.length = 32) : ldA 23 w (.pointer (some ⟨b, 0, none⟩)) = .ok (.value (.agg (bA l))) w :=
  ldA_row h Try.underlying23 (by rw [bA_size, hl]; exact infoKey)
theorem RowB.keep {L : Nat → Prop} {w w' : World} {b : Nat} {t : TypeId} {l : List UInt8} (h : RowB w b t l) (k : Keep L w w') (hl : ¬ L b) : RowB w' b t l := k.heap h hl
end Go.Proofs.Ytbkokcfmndiedaa
