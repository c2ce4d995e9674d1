import Derived.Test.YtjgdindjimbfeaaGreatDoorTG
import Derived.Laws.Cover3
namespace Go.Proofs.YtjgdindjimbfeaaGreatDoor
set_option linter.unusedSimpArgs false
set_option linter.unusedVariables false
open Go.RowKit
theorem arr_at {t n e : Nat} (hu : Tryz.prog.underlying t = some (.array n e)) (A : Option Addr) (len c : Nat) (h : n ≤ len) (w : World) : (Instr.arrayAt t (.slice A len c)).run Tryz.prog w = .ok (.pointer A) w :=
 run_arrayAt w t e n A len c hu h
theorem BA.ld {w : World} {g o p n : Nat} {l : List UInt8} {t e : TypeId} (h : BA w (some ⟨g, o, none⟩) l) (hl : p + n ≤ l.length) (hu : Tryz.prog.underlying t = some (.array n e)) (hi : (Tryz.prog.info? t).map (·.size) = some n) :
  ldA t w (.pointer (some ⟨g, o + p, none⟩)) = .ok (.value (.agg (bA ((l.drop p).take n)))) w := by
 have hlen : ((l.drop p).take n).length = n := by rw [List.length_take, List.length_drop]; omega
 have := ldA_of (t := t) (w := w) (b := g) (o := o + p) (cs := ((l.drop p).take n).map bv) (fun j v hv => by
  rw [List.getElem?_map] at hv
  obtain ⟨x, hx, rfl⟩ := Option.map_eq_some_iff.1 hv
  rw [List.getElem?_take] at hx
  split at hx
  ·rw [List.getElem?_drop] at hx
   obtain ⟨b, q, e, h1⟩ := h _ _ hx
   cases e
   rw [Nat.add_assoc]
   exact h1
  ·cases hx) hu (by rw [List.length_map, hlen]; exact hi)
 exact this
theorem results_row_tmp {fn : Func} {p u : Tmp} {ty : TypeId} (h : fn.results = #[.cell p ty, .tmp u]) (tmps : Array Value) (w : World) (g : Nat) (cs : Array Value) (v : Value)
  (hp : tmps.getD p undef = .pointer (some ⟨g, 0, none⟩)) (hv : tmps.getD u undef = v) (hl : (loadVar ty ⟨g, 0, none⟩).run Tryz.prog w = .ok (.agg cs) w) :
  (results fn tmps).run Tryz.prog w = .ok (.tuple #[.agg cs, v]) w := by
 have hp' : tmps[p]?.getD undef = .pointer (some ⟨g, 0, none⟩) := by simpa using hp
 have hv' : tmps[u]?.getD undef = v := by simpa using hv
 simp [results, h, hp', hv', asAddr, hl]
end Go.Proofs.YtjgdindjimbfeaaGreatDoor
