/- Several texts in one: Qa Qb Qd Qe Qf Qg Qz. -/
import Derived.Test.YtnmbbfndboohjaaDoorM6
import Derived.Test.YtnmbbfndboohjaaDoorMP
import Derived.Test.YtnmbbfndboohjaaDoorCl
/- The program's subtrees in memory (values of structs in an interface); its content, Kind, Len. -/
namespace Go.Proofs.YtnmbbfndboohjaaDoor
open Go.RowKit

/-- A leaf's content, an inner node's, as the program lays them; a node's cells. -/
def flC (r : List UInt8) (A : Option Addr) (l : List UInt8) (c : Nat) : Array Value := (r.map bv ++ [Value.slice A l.length c]).toArray
def inC (a b : Value) (n : Int) : Array Value := #[a, b, .int .i64 n]
def nodeC (g : List UInt8) (c : Value) : Array Value := (g.map bv ++ [c]).toArray
def NodeAt (w : World) (g : Nat) (d : List UInt8) (c : Value) : Prop := w.heap[g]? = some (.cells (nodeC d c) 113 (0, 0))
theorem NodeAt.cell {w : World} {g : Nat} {d : List UInt8} {c : Value} (h : NodeAt w g d c) (hd : d.length = 32) : w.cell? ⟨g, 32, none⟩ = some c := by
  rw [cell_of_cells h]
  unfold nodeC
  simp only [List.getElem?_toArray]
  rw [List.getElem?_append_right (by simp [hd])]
  simp [hd]
theorem NodeAt.dig {w : World} {g : Nat} {d : List UInt8} {c : Value} (h : NodeAt w g d c) (hd : d.length = 32) : ldA 24 w (.pointer (some ⟨g, 0, none⟩)) = .ok (.value (.agg (bA d))) w := by
  have := ldA_of (t := 24) (w := w) (b := g) (o := 0) (cs := d.map bv) (fun j v hv => by
    rw [Nat.zero_add, cell_of_cells h]
    unfold nodeC
    simp only [List.getElem?_toArray]
    rw [List.getElem?_append_left (List.getElem?_eq_some_iff.1 hv).1]
    exact hv) Tryd.underlying24 (by rw [List.length_map, hd]; exact info26)
  exact this
theorem NodeAt.below {w w' : World} {g : Nat} {d : List UInt8} {c : Value} (h : NodeAt w g d c) (hb : Below w.heap.size w w') : NodeAt w' g d c := by
  unfold NodeAt
  rw [hb.block g (lt_of_heap h)]
  exact h
theorem NodeAt.hs {w w' : World} {g b : Nat} {d : List UInt8} {c : Value} {k : Int} {m : Nat} (h : NodeAt w g d c) (hd : d.length = 32) (hh : Hs w b k m) (hk : Keep (fun i => i = b) w w') : NodeAt w' g d c :=
  hk.heap h fun e => by
    have e2 : g = b := e
    subst e2
    have h1 := h.cell hd
    rw [cell_of_cells hh] at h1
    simp at h1
/-! ### The content taken apart -/
end Go.Proofs.YtnmbbfndboohjaaDoor

/- The program's asFull, asInner; Left, Right, Leaf. -/
namespace Go.Proofs.YtnmbbfndboohjaaDoor
open Go.RowKit

theorem flC_size (r : List UInt8) (A : Option Addr) (l : List UInt8) (c : Nat) (h : r.length = 64) : (flC r A l c).size = 65 := by simp [flC, h]
theorem flC_one (r : List UInt8) (A : Option Addr) (l : List UInt8) (c : Nat) : (flC r A l c).all (·.oneCell') = true := by simp [flC, bv, Value.oneCell']
theorem inC_one (a b : Option Addr) (n : Int) : (inC (.pointer a) (.pointer b) n).all (·.oneCell') = true := by simp [inC, Value.oneCell']
theorem leafV_len (n : Int) (t : Tr) (h : ∀ e, t = .leaf e → e.k.length = 32) : (leafV n t).length = 64 := by
  match t, h with
  | .nil, _ => rfl
  | .inner _ _, _ => rfl
  | .leaf e, h =>
    show (e.k ++ digL n (valL e.v)).length = 64
    rw [List.length_append, h e rfl, dig_len]
noncomputable def fldA (t : TypeId) (w : World) (v : Value) (i : Nat) : Result Next := Sem.run Tryd.prog (do pure (.value (← Instr.field t v i))) w
theorem list64 (l : List UInt8) (h : l.length = 64) : l = (List.range 64).map fun j => l.getD j 0 := by
  refine List.ext_getElem (by simp [h]) fun j h1 h2 => ?_
  simp [List.getD_eq_getElem?_getD, h1]
end Go.Proofs.YtnmbbfndboohjaaDoor

/- The program's Entry (its drawn region by program: gen-tpl7-entry.py). -/
namespace Go.Proofs.YtnmbbfndboohjaaDoor
open Go.RowKit

theorem NewB.mono {w : World} {B B' : Nat} {A : Option Addr} {c : Nat} {l : List UInt8} (h : NewB w B A c l) (hB : B' ≤ B) : NewB w B' A c l := ⟨h.1, h.2.imp id fun h => OwnB.mono h hB⟩
theorem NewB.row {w : World} {B b : Nat} {A : Option Addr} {c : Nat} {l : List UInt8} {cs : Array Value} (h : NewB w B A c l) (hb : b < B) : NewB (w.setRow b cs) B A c l :=
  ⟨h.1, h.2.imp id fun ⟨e0, h⟩ => ⟨e0, h.imp id fun ⟨g, cap, cur, e, hg, hh, hr⟩ => ⟨g, cap, cur, e, hg, by rw [setRow_other _ _ _ _ (by omega)]; exact hh, hr⟩⟩⟩
theorem fl_key {w : World} {g : Nat} {t : TypeId} {fr : Nat × Nat} {r l : List UInt8} {A : Option Addr} {c : Nat} (h : w.heap[g]? = some (.cells (flC r A l c) t fr)) (hr : r.length = 64) : ldA 23 w (.pointer (some ⟨g, 0, none⟩)) = .ok (.value (.agg (bA (r.take 32)))) w :=
  ldA_of (t := 23) (w := w) (b := g) (o := 0) (cs := (r.take 32).map bv) (fun j v hv => by
    have hj : j < 32 := by have := (List.getElem?_eq_some_iff.1 hv).1; simp at this; omega
    rw [Nat.zero_add, cell_of_cells h]
    unfold flC
    simp only [List.getElem?_toArray]
    rw [List.getElem?_append_left (by simp [hr]; omega), ← hv, List.map_take, List.getElem?_take, if_pos hj]) Tryd.underlying23 (by rw [List.length_map, List.length_take, hr]; exact infoKey)
theorem fl_val {w : World} {g : Nat} {t : TypeId} {fr : Nat × Nat} {r l : List UInt8} {A : Option Addr} {c : Nat} (h : w.heap[g]? = some (.cells (flC r A l c) t fr)) (hr : r.length = 64) : w.cell? ⟨g, 64, none⟩ = some (.slice A l.length c) := by
  rw [cell_of_cells h]
  unfold flC
  simp only [List.getElem?_toArray]
  rw [List.getElem?_append_right (by simp [hr])]
  simp [hr]
end Go.Proofs.YtnmbbfndboohjaaDoor

/- The program's Digest (as landed). -/
namespace Go.Proofs.YtnmbbfndboohjaaDoor
open Go.RowKit

/-- A block that was made since is written. -/
theorem Keep.newRow {L : Nat → Prop} {w w' : World} {g : Nat} (h : Keep L w w') (hg : w.heap.size ≤ g) (cs : Array Value) : Keep L w (w'.setRow g cs) :=
  h.step (Keep.row w' g cs) fun i hi => .inr (by have e : i = g := hi; omega)
end Go.Proofs.YtnmbbfndboohjaaDoor

/- The program's NewLeaf (its drawn region by program: gen-tpl7-newleaf.py). -/
namespace Go.Proofs.YtnmbbfndboohjaaDoor
open Go.RowKit

@[go_sem ↓] theorem execOp_buildNode (ρ : Operand → Value) (dst : Option Tmp) (parts : Array (Nat × Operand)) (type : TypeId) (pos : String) (after : Array Edge) (guard : Option (Nat × Bool)) (w : World) :
    Sem.run Tryd.prog (execOp ρ { dst, op := .build 113 parts, type, pos, after, guard }) w = bldA 113 w (parts.map fun x => (x.1, ρ x.2)) := rfl
theorem bldNode_f (f : Nat → UInt8) (t : TypeId) (v : Value) (w : World) : bldA 113 w #[(0, .agg (bA ((List.range 32).map f))), (1, .iface t v)] = .ok (.value (.agg (((List.range 32).map f).map bv ++ [Value.iface t v]).toArray)) w := by kernel_rfl
theorem bldNode (q : List UInt8) (t : TypeId) (v : Value) (hq : q.length = 32) (w : World) : bldA 113 w #[(0, .agg (bA q)), (1, .iface t v)] = .ok (.value (.agg (nodeC q (.iface t v)))) w := by
  have := bldNode_f (fun j => q.getD j 0) t v w
  rw [← list32 q hq] at this
  exact this
theorem NewB.keep {w w' : World} {B : Nat} {A : Option Addr} {c : Nat} {l : List UInt8} {L : Nat → Prop} (h : NewB w B A c l) (k : Keep L w w') (hL : ∀ i, L i → i < B) : NewB w' B A c l :=
  ⟨h.1, h.2.imp id fun ⟨e0, h⟩ => ⟨e0, h.imp id fun ⟨g, cap, cur, e, hg, hh, hr⟩ => ⟨g, cap, cur, e, hg, k.heap hh fun hl => by have := hL _ hl; omega, hr⟩⟩⟩
end Go.Proofs.YtnmbbfndboohjaaDoor

/- The program's Join (by program: gen-tpl7-join.py). -/
namespace Go.Proofs.YtnmbbfndboohjaaDoor
open Go.RowKit

end Go.Proofs.YtnmbbfndboohjaaDoor

/- The program of layer 7 keeps its contract. -/
namespace Go.Proofs.YtnmbbfndboohjaaDoor
open Go.RowKit

end Go.Proofs.YtnmbbfndboohjaaDoor
