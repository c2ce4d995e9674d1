/- Parts of a slice of bytes; a part as an array. -/
import Derived.Test.YtbkokcfmndiedaaGreatDoorGn
import Derived.Laws.Cover3
namespace Go.Proofs.YtbkokcfmndiedaaGreatDoor
open Go.RowKit

theorem elemB : Tryz.prog.elem 38 = 5 := by kernel_rfl
theorem htB : Tryz.prog.underlying 38 = some (.slice (Tryz.prog.elem 38)) := by rw [elemB]; exact Tryz.underlying38
/-- b[p:q], q not beyond the capacity, p below it. -/
theorem sl_lh (g o n c p q : Nat) (h : p ≤ q) (h2 : q ≤ c) (hp : p < c) (P Q : Int) (hP : P = p) (hQ : Q = q) (w : World) :
    (Instr.sliceAt 38 (.slice (some ⟨g, o, none⟩) n c) (some (.int .i64 P)) (some (.int .i64 Q)) none).run Tryz.prog w = .ok (.slice (some ⟨g, o + p, none⟩) (q - p) (c - p)) w := by
  subst hP hQ
  rw [run_sliceAt_slice w 38 _ _ _ _ htB, run_slice_lh w 38 _ _ _ htB .i64 .i64 _ _ (by omega) (by omega) (by omega), elemB, size5]
  simp [sliced, add_none, show ¬ c = p by omega]
/-- b[p:], p below the capacity. -/
theorem sl_l (g o n c p : Nat) (h : p ≤ n) (hp : p < c) (P : Int) (hP : P = p) (w : World) :
    (Instr.sliceAt 38 (.slice (some ⟨g, o, none⟩) n c) (some (.int .i64 P)) none none).run Tryz.prog w = .ok (.slice (some ⟨g, o + p, none⟩) (n - p) (c - p)) w := by
  subst hP
  rw [run_sliceAt_slice w 38 _ _ _ _ htB, run_slice_l w 38 _ _ _ htB .i64 _ (by omega) (by omega), elemB, size5]
  simp [sliced, add_none, show ¬ c = p by omega]
theorem arr_at {t n e : Nat} (hu : Tryz.prog.underlying t = some (.array n e)) (A : Option Addr) (len c : Nat) (h : n ≤ len) (w : World) : (Instr.arrayAt t (.slice A len c)).run Tryz.prog w = .ok (.pointer A) w :=
  run_arrayAt w t e n A len c hu h
/-- A part of bytes, loaded as an array. -/
theorem BA.ld {w : World} {g o p n : Nat} {l : List UInt8} {t e : TypeId} (h : BA w (some ⟨g, o, none⟩) l) (hl : p + n ≤ l.length) (hu : Tryz.prog.underlying t = some (.array n e)) (hi : (Tryz.prog.info? t).map (·.size) = some n) :
    ldA t w (.pointer (some ⟨g, o + p, none⟩)) = .ok (.value (.agg (bA ((l.drop p).take n)))) w := by
  have hlen : ((l.drop p).take n).length = n := by rw [List.length_take, List.length_drop]; omega
  have := ldA_of (t := t) (w := w) (b := g) (o := o + p) (cs := ((l.drop p).take n).map bv) (fun j v hv => by
    rw [List.getElem?_map] at hv
    obtain ⟨x, hx, rfl⟩ := Option.map_eq_some_iff.1 hv
    rw [List.getElem?_take] at hx
    split at hx
    · rw [List.getElem?_drop] at hx
      obtain ⟨b, q, e, h1⟩ := h _ _ hx
      cases e
      rw [Nat.add_assoc]
      exact h1
    · cases hx) hu (by rw [List.length_map, hlen]; exact hi)
  exact this
/-! ### Results: arrays beside a bool -/
theorem results_row_tmp {fn : Func} {p u : Tmp} {ty : TypeId} (h : fn.results = #[.cell p ty, .tmp u]) (tmps : Array Value) (w : World) (g : Nat) (cs : Array Value) (v : Value)
    (hp : tmps.getD p undef = .pointer (some ⟨g, 0, none⟩)) (hv : tmps.getD u undef = v) (hl : (loadVar ty ⟨g, 0, none⟩).run Tryz.prog w = .ok (.agg cs) w) :
    (results fn tmps).run Tryz.prog w = .ok (.tuple #[.agg cs, v]) w := by
  have hp' : tmps[p]?.getD undef = .pointer (some ⟨g, 0, none⟩) := by simpa using hp
  have hv' : tmps[u]?.getD undef = v := by simpa using hv
  simp [results, h, hp', hv', asAddr, hl]
theorem results_two_rows_tmp {fn : Func} {p q u : Tmp} {ty : TypeId} (h : fn.results = #[.cell p ty, .cell q ty, .tmp u]) (tmps : Array Value) (w : World) (g k : Nat) (cs ds : Array Value) (v : Value)
    (hp : tmps.getD p undef = .pointer (some ⟨g, 0, none⟩)) (hq : tmps.getD q undef = .pointer (some ⟨k, 0, none⟩)) (hv : tmps.getD u undef = v)
    (hl : (loadVar ty ⟨g, 0, none⟩).run Tryz.prog w = .ok (.agg cs) w) (hm : (loadVar ty ⟨k, 0, none⟩).run Tryz.prog w = .ok (.agg ds) w) :
    (results fn tmps).run Tryz.prog w = .ok (.tuple #[.agg cs, .agg ds, v]) w := by
  have hp' : tmps[p]?.getD undef = .pointer (some ⟨g, 0, none⟩) := by simpa using hp
  have hq' : tmps[q]?.getD undef = .pointer (some ⟨k, 0, none⟩) := by simpa using hq
  have hv' : tmps[u]?.getD undef = v := by simpa using hv
  simp [results, h, hp', hq', hv', asAddr, hl, hm]
/-- A digest in memory, read as a result. -/
theorem varDig {w : World} {g : Nat} {t : TypeId} {fr : Nat × Nat} {l : List UInt8} (h : w.heap[g]? = some (.cells (bA l) t fr)) (hl : l.length = 32) : (loadVar 31 ⟨g, 0, none⟩).run Tryz.prog w = .ok (.agg (bA l)) w :=
  run_loadVar_row (P := Tryz.prog) w g t 31 (bA l) fr _ h Tryz.underlying31 rfl (by rw [bA_size, hl]; exact info26)
end Go.Proofs.YtbkokcfmndiedaaGreatDoor
