/- Several texts in one: Fa Fb Fc Fd Fe Ff Fg. -/
import Derived.RangeFuncBound
import Derived.RangeFuncLeaves
import Derived.Shelf.Abstract
import Derived.Shelf.RegionOpen
import Derived.OwnWalkIn
import Derived.TacticsInMore
import Derived.LoopNIn
import Derived.LoopIn
import Derived.Test.YtaajnjddfcdeaaaDoorMO
import Derived.Test.YtaajnjddfcdeaaaDoorM3
import Derived.Test.YtaajnjddfcdeaaaDoorMR
import Derived.RangeFuncCalls
import Derived.BigQuiet
import Derived.Test.YtaajnjddfcdeaaaDoorMQ
import Derived.WalkMore
/- The program's Child, and its iterator over a way. -/
namespace Go.Proofs.YtaajnjddfcdeaaaDoor
open Go.RowKit Go.Shelf

theorem pbitK_c (k : List UInt8) (hk : k.length = 32) (d : Int) (w : World) : Calls Tryd.prog 56 #[.agg (bA k), .int .i64 d] w fun e w' => e = .returned (.int .i64 (bitK k d)) ∧ Below w.heap.size w w' := by
  rw [bA_key k hk]
  exact Bt.bit_c (keyF k) (keyF_byt k) d w
theorem kind_inner {T : Tv} (h : kindT T.tr = 2) : ∃ v a b, T = .inner v a b := by
  cases T with
  | nil => exact absurd h (show ¬ (0 : Int) = 2 by decide)
  | leaf v e => exact absurd h (show ¬ (1 : Int) = 2 by decide)
  | inner v a b => exact ⟨v, a, b, rfl⟩
theorem At.child {l : List Ent} {k : List UInt8} {d : Nat} {T : Tv} (hs : Sep 0 l) (h : At l k d T) (hk : kindT T.tr = 2) : d < 256 ∧ At l k (d + 1) (T.child (bitK k d)) := by
  obtain ⟨v, a, b, rfl⟩ := kind_inner hk
  obtain ⟨h1, _, h3, _⟩ := At.inner hs h
  refine ⟨h1, ?_⟩
  unfold Tv.child
  split at h3 <;> rename_i hb
  · rw [if_pos hb]; exact h3
  · rw [if_neg hb]; exact h3
/-- What the iterator knows between two rounds. -/
structure Wy (M : World → Int → Tv → Prop) (w0 : World) (n : Int) (k : List UInt8) (s q : Nat) (S : Tv) (X : World) : Prop where
  bel : Below w0.heap.size w0 X
  st : X.heap[s]? = some (.cells #[S.val] 23 (0, 0))
  ky : X.heap[q]? = some (.cells (bA k) 44 (0, 0))
theorem Wy.below {M : World → Int → Tv → Prop} {w0 : World} {n : Int} {k : List UInt8} {s q : Nat} {S : Tv} {X Y : World} (h : Wy M w0 n k s q S X) (hb : Below X.heap.size X Y) : Wy M w0 n k s q S Y :=
  ⟨h.bel.trans (hb.mono h.bel.size), by rw [hb.block _ (lt_of_heap h.st)]; exact h.st, by rw [hb.block _ (lt_of_heap h.ky)]; exact h.ky⟩
theorem Wy.keep {M : World → Int → Tv → Prop} {w0 : World} {n : Int} {k : List UInt8} {s q : Nat} {S : Tv} {X Y : World} (h : Wy M w0 n k s q S X) (hk : Keep (fun i => w0.heap.size ≤ i ∧ i ≠ s ∧ i ≠ q) X Y) : Wy M w0 n k s q S Y :=
  ⟨h.bel.trans (hk.below h.bel.size fun _ hi => hi.1), hk.heap h.st fun h => h.2.1 rfl, hk.heap h.ky fun h => h.2.2 rfl⟩
/-- A fold that holds in the fenced walk. -/
@[go_sem ↓] theorem semAt_loadKey (ro : Option Nat) (ρ : Operand → Value) (dst : Option Tmp) (x : Operand) (type : TypeId) (pos : String) (after : Array Edge) (guard : Option (Nat × Bool)) (w : World) :
    Sem.run Tryd.prog (Oper.semAt ro ρ { dst, op := .load 44 x, type, pos, after, guard }) w = ldA 44 w (ρ x) := by cases ro <;> rfl
end Go.Proofs.YtaajnjddfcdeaaaDoor

/- The program's Way: a loop over the iterator that collects. -/
namespace Go.Proofs.YtaajnjddfcdeaaaDoor
open Go.RowKit Go.Shelf
attribute [local go_sem] Oper.semAt_some
theorem pre_mem {α : Type} {pre xs : List α} {x : α} (h : pre ++ [x] <+: xs) : x ∈ xs := h.subset (by simp)
theorem pre_len {α : Type} {pre xs : List α} {x : α} (h : pre ++ [x] <+: xs) : pre.length < xs.length := by have := h.length_le; simp at this; omega
end Go.Proofs.YtaajnjddfcdeaaaDoor

/- The program's Siblings: a loop over the iterator that collects what calls return (its round's drawn region by program: gen-tplr-sibs.py). -/
namespace Go.Proofs.YtaajnjddfcdeaaaDoor
open Go.RowKit Go.Shelf
attribute [local go_sem] Oper.semAt_some
theorem keepsO_below {X Y : World} (h : Below X.heap.size X Y) : KeepsOthers X Y := ⟨h.size, fun k o hk _ => by rw [h.block _ (lt_of_heap hk)]; exact hk⟩
end Go.Proofs.YtaajnjddfcdeaaaDoor

/- The program's Locate: a loop over the iterator that keeps what came last. -/
namespace Go.Proofs.YtaajnjddfcdeaaaDoor
open Go.RowKit Go.Shelf
attribute [local go_sem] Oper.semAt_some
end Go.Proofs.YtaajnjddfcdeaaaDoor

/- The program's Get; whether two keys agree. -/
namespace Go.Proofs.YtaajnjddfcdeaaaDoor
open Go.RowKit Go.Shelf

theorem field_leafKey_f (f : Nat → UInt8) (w : World) : (Instr.field 91 (.agg (bA ((List.range 64).map f))) 0).run Tryd.prog w = .ok (.agg (bA ((List.range 32).map f))) w := by kernel_rfl
theorem field_leafKey (l : List UInt8) (h : l.length = 64) (w : World) : (Instr.field 91 (.agg (bA l)) 0).run Tryd.prog w = .ok (.agg (bA (l.take 32))) w := by
  have h1 := field_leafKey_f (fun j => l.getD j 0) w
  rw [← list64 l h] at h1
  have e : (List.range 32).map (fun j => l.getD j 0) = l.take 32 := by
    refine List.ext_getElem (by simp [h]) fun j h2 h3 => ?_
    have hj : j < l.length := by have : j < 32 := by simpa using h2
                                 omega
    simp [List.getD_eq_getElem?_getD, hj]
  rw [h1, e]
end Go.Proofs.YtaajnjddfcdeaaaDoor

/- The program's Under: a loop over the iterator that is left by a label. -/
namespace Go.Proofs.YtaajnjddfcdeaaaDoor
open Go.RowKit Go.Shelf
attribute [local go_sem] Oper.semAt_some
end Go.Proofs.YtaajnjddfcdeaaaDoor

/- The program of layer 8 keeps its contract. -/
namespace Go.Proofs.YtaajnjddfcdeaaaDoor
open Go.RowKit

end Go.Proofs.YtaajnjddfcdeaaaDoor
