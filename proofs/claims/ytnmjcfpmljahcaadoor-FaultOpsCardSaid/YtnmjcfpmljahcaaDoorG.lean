/- errors.as and errors.As at a code's variable; Code. -/
import Derived.Test.YtnmjcfpmljahcaaDoorF
namespace Go.Proofs.YtnmjcfpmljahcaaDoor
open Go.RowKit Go.Extern.Stop Go.Stop Go.Extern

@[go_sem] theorem ta87_44 (v : Value) (w : World) : (Instr.typeAssert (.iface 44 v) 26 87 true).run Tryd.prog w = .ok (.tuple #[.nilIface, .bool false]) w := run_typeAssert_lacksB Tryd.underlying87 (by kernel_rfl) (by kernel_rfl) v 26 w

def AsPost (w : World) (b : Nat) (c : Int) (e : Ending) (w' : World) : Prop := e = .returned (.bool true) ∧ w'.cell? ⟨b, 0, none⟩ = some (.int .i64 c) ∧ Below b w w'

set_option maxHeartbeats 4000000 in
set_option maxRecDepth 100000 in
theorem eas_c (fs : List Fr) (c : Int) (v tgt old : Value) (g b : Nat) (w : World) (h : Chain w (.iface 31 (.int .i64 c)) fs v) (hg : w.heap[g]? = some (.cells #[.pointer (some ⟨b, 0, none⟩)] 52 (0, 0)))
    (hb : w.heap[b]? = some (.cells #[old] 31 (0, 0))) :
    Calls Tryd.prog 32 #[v, tgt, .agg #[.pointer (some ⟨4, 52, none⟩), .pointer (some ⟨g, 0, none⟩), .int .u64 150], .iface 83 (.agg #[.pointer (some ⟨4, 31, none⟩)])] w (AsPost w b c) := by
  obtain ⟨W, hW⟩ : ∃ W, W = w.alloc (.cells #[.pointer (some ⟨4, 52, none⟩), .pointer (some ⟨g, 0, none⟩), .int .u64 150] 69) := ⟨_, rfl⟩
  have hbW : Below w.heap.size w W := by rw [hW]; exact (Below.refl _ _).alloc (Nat.le_refl _) _
  have h6 : W.heap[w.heap.size]? = some (.cells #[.pointer (some ⟨4, 52, none⟩), .pointer (some ⟨g, 0, none⟩), .int .u64 150] 69 (0, 0)) := by rw [hW]; exact heap_alloc_new w _
  have hg1 : W.heap[g]? = some (.cells #[.pointer (some ⟨b, 0, none⟩)] 52 (0, 0)) := by rw [hbW.block _ (lt_of_heap hg)]; exact hg
  have hb1 : W.heap[b]? = some (.cells #[old] 31 (0, 0)) := by rw [hbW.block _ (lt_of_heap hb)]; exact hb
  have hC1 := h.below hbW
  have hlt : b < w.heap.size := lt_of_heap hb
  have H6 := Lib.hid h6
  have HG := Lib.hid hg1
  have HB := Lib.hid hb1
  have HC := Lib.hid hC1
  have HW := Lib.hid hbW
  have HWW := Lib.hid hW
  clear h6 hg1 hb1 hC1 hbW h hg hb
  go_enter Tryd.func32, Tryd.ntmps32
  go_wp2
  rw [← HWW.out]
  clear hW
  go_loopg [0] fs.length (fun gg err wr => ∃ gs : List Fr, gs.length = gg ∧ Chain W (.iface 31 (.int .i64 c)) gs err ∧ wr = W)
  case atStart => exact ⟨fs, rfl, HC.out, rfl⟩
  case round =>
    obtain ⟨gs, rfl, hC, rfl⟩ := hrel
    have t44 := call_typeOf44
    have t31 := call_typeOf31
    have mA := m_assignable
    have nA : ∀ (h : Value) (w : World), (nilAhead 242 83 (.agg #[h]) "AssignableTo").run Tryd.prog w = .ok (some false) w := fun _ _ => by kernel_rfl
    cases gs with
    | nil =>
      obtain rfl : _ = Value.iface 31 (.int .i64 c) := hC
      have a31 := call_assignable31
      have v31 := call_valueOf31
      have c0 : wr.cell? ⟨w.heap.size, 0, none⟩ = some (.pointer (some ⟨4, 52, none⟩)) := by rw [cell_of_cells H6.out]; rfl
      have c1 : wr.cell? ⟨w.heap.size, 1, none⟩ = some (.pointer (some ⟨g, 0, none⟩)) := by rw [cell_of_cells H6.out]; rfl
      have c2 : wr.cell? ⟨w.heap.size, 2, none⟩ = some (.int .u64 150) := by rw [cell_of_cells H6.out]; rfl
      have eV := call_elemV52 ⟨g, 0, none⟩ ⟨b, 0, none⟩ wr (by rw [cell_of_cells HG.out]; rfl)
      have hblt : b < wr.heap.size := lt_of_heap HB.out
      have hb2 : (wr.alloc (.cells #[.int .i64 c] 31)).heap[b]? = some (.cells #[old] 31 (0, 0)) := by rw [Below.heap_alloc _ _ _ hblt]; exact HB.out
      have sV := call_set31 ⟨b, 0, none⟩ ⟨wr.heap.size, 0, none⟩ c old (wr.alloc (.cells #[.int .i64 c] 31)) (by simp) (by rw [cell_of_cells hb2]; rfl) (by simp [World.frozen?, hb2])
      have HB2 := Lib.hid hb2
      have HBL := Lib.hid hblt
      clear hb2 hblt
      go_wp2
      go_ret
      refine ⟨rfl, ?_, ((HW.out.mono (Nat.le_of_lt hlt)).alloc (Nat.le_of_lt HBL.out) _).setCell (p := ⟨b, 0, none⟩) (Nat.le_refl _) _⟩
      simp [World.setCell, World.cell?, Array.getElem?_modify, HB2.out]
    | cons f r =>
      obtain ⟨rfl, v', hh, hC'⟩ := hC
      obtain ⟨t, y, rfl⟩ := hC'.iface
      have HH := Lib.hid hh
      have HC2 := Lib.hid hC'
      clear hh hC'
      have a44 := call_assignable44
      have mU := m_unwrap
      have nU := na_unwrap
      go_wp2_with (go_at_call 17; refine (unwrap_c f.b _ _ _ _ HH.out).mono ?_; rintro e w' ⟨rfl, rfl⟩)
      go_roundg r.length
      case measure => simp
      case rel => exact ⟨r, rfl, HC2.out, rfl⟩
end Go.Proofs.YtnmjcfpmljahcaaDoor
