/- errors.As at a code's variable; Code. -/
import Derived.Test.YtnmjcfpmljahcaaDoorG
namespace Go.Proofs.YtnmjcfpmljahcaaDoor
open Go.RowKit Go.Extern.Stop Go.Stop Go.Extern

/-- What the program's variable errors.errorType holds. -/
def ErrVar (w : World) : Prop := w.cell? ⟨0, 0, none⟩ = some (.iface 83 (.agg #[.pointer (some ⟨4, 26, none⟩)]))
theorem ErrVar.below {w w' : World} (h : ErrVar w) (hb : Below w.heap.size w w') : ErrVar w' := by
  unfold ErrVar
  rw [hb.cell (lt_of_cell h)]; exact h

theorem errAs_nil (t : Value) (w : World) : Calls Tryd.prog 21 #[.nilIface, t] w fun e w' => e = .returned (.bool false) ∧ w = w' := by
  go_enter Tryd.func21, Tryd.ntmps21
  go_wp2
  go_ret
  exact ⟨rfl, rfl⟩

set_option maxHeartbeats 4000000 in
set_option maxRecDepth 100000 in
theorem errAs_c (fs : List Fr) (c : Int) (v old : Value) (b : Nat) (w : World) (h : Chain w (.iface 31 (.int .i64 c)) fs v) (hv : ErrVar w)
    (hb : w.heap[b]? = some (.cells #[old] 31 (0, 0))) :
    Calls Tryd.prog 21 #[v, .iface 52 (.pointer (some ⟨b, 0, none⟩))] w (AsPost w b c) := by
  obtain ⟨t, y, rfl⟩ := h.iface
  obtain ⟨W, hW⟩ : ∃ W, W = (w.alloc (.cells #[.pointer (some ⟨b, 0, none⟩)] 52)).alloc (.cells #[.pointer (some ⟨4, 52, none⟩), .pointer (some ⟨w.heap.size, 0, none⟩), .int .u64 150] 69) := ⟨_, rfl⟩
  have hbW : Below w.heap.size w W := by rw [hW]; exact ((Below.refl _ _).alloc (Nat.le_refl _) _).alloc (by simp) _
  have hg : W.heap[w.heap.size]? = some (.cells #[.pointer (some ⟨b, 0, none⟩)] 52 (0, 0)) := by
    rw [hW, Below.heap_alloc _ _ _ (by simp)]; exact heap_alloc_new w _
  have hb1 : W.heap[b]? = some (.cells #[old] 31 (0, 0)) := by rw [hbW.block _ (lt_of_heap hb)]; exact hb
  have hC := h.below hbW
  have hlt : b < w.heap.size := lt_of_heap hb
  have e0 := hv.below hbW
  unfold ErrVar at e0
  have n8 := call_isNil52 ⟨w.heap.size, 0, none⟩ ⟨b, 0, none⟩ W (by rw [cell_of_cells hg]; rfl)
  rw [hW] at e0 n8
  have HG := Lib.hid hg
  have HB := Lib.hid hb1
  have HC := Lib.hid hC
  have HW := Lib.hid hbW
  have HWW := Lib.hid hW
  clear hg hb1 hC hbW hW h hv hb
  have v52 := call_valueOf52
  have t52 := call_type52
  have mK := m_kind
  have k52 := call_kind52
  have k31 := call_kind31
  have mE := m_elem
  have el := call_elem52
  have mI := m_implements
  have im := call_implements31
  have nA : ∀ (h : Value) (w : World), (nilAhead 242 83 (.agg #[h]) "Kind").run Tryd.prog w = .ok (some false) w := fun _ _ => by kernel_rfl
  go_enter Tryd.func21, Tryd.ntmps21
  go_wp2_with fail
  rw [← HWW.out]
  clear v52 t52 mK k52 k31 mE el mI im nA n8 e0
  refine (eas_c fs c _ _ old w.heap.size b W HC.out HG.out HB.out).mono ?_
  rintro e w1 ⟨rfl, hc, hB⟩
  have HB2 := Lib.hid hB
  have HC2 := Lib.hid hc
  clear hB hc
  go_wp2
  go_ret
  exact ⟨rfl, HC2.out, (HW.out.mono (Nat.le_of_lt hlt)).trans HB2.out⟩

theorem code_nil (w : World) : Calls Tryd.prog 13 #[.nilIface] w fun e w' => e = .returned (.int .i64 0) ∧ w = w' := by
  go_enter Tryd.func13, Tryd.ntmps13
  go_wp2
  go_ret
  exact ⟨rfl, rfl⟩

set_option maxHeartbeats 4000000 in
set_option maxRecDepth 100000 in
theorem code_some (fs : List Fr) (c : Int) (v : Value) (w : World) (h : Chain w (.iface 31 (.int .i64 c)) fs v) (hv : ErrVar w) (hl : fs.length ≤ 400000) :
    Calls Tryd.prog 13 #[v] w fun e w' => e = .returned (.int .i64 c) ∧ Below w.heap.size w w' := by
  obtain ⟨t, y, rfl⟩ := h.iface
  have hB0 : Below w.heap.size w (w.alloc (.cells #[.int .i64 0] 31)) := (Below.refl _ _).alloc (Nat.le_refl _) _
  have hb0 : (w.alloc (.cells #[.int .i64 0] 31)).heap[w.heap.size]? = some (.cells #[.int .i64 0] 31 (0, 0)) := heap_alloc_new w _
  have HC := Lib.hid (h.below hB0)
  have HV := Lib.hid (hv.below hB0)
  have HB0 := Lib.hid hB0
  have Hb0 := Lib.hid hb0
  clear h hv hB0 hb0
  go_enter Tryd.func13, Tryd.ntmps13
  go_wp2_with (go_at_call 22; refine (coded_some fs c _ _ HC.out hl).mono ?_; rintro e w1 ⟨rfl, hB⟩; have HB1 := Lib.hid hB; clear hB)
  have hb1 : w1.heap[w.heap.size]? = some (.cells #[.int .i64 0] 31 (0, 0)) := by rw [HB1.out.block _ (lt_of_heap Hb0.out)]; exact Hb0.out
  have Hb1 := Lib.hid hb1
  clear hb1
  go_wp2_with (go_at_call 21; refine (errAs_c fs c _ (.int .i64 0) w.heap.size _ (HC.out.below HB1.out) (HV.out.below HB1.out) Hb1.out).mono ?_; rintro e w2 ⟨rfl, hc, hB⟩; have HB2 := Lib.hid hB; clear hB)
  go_wp2
  go_ret
  exact ⟨rfl, (HB0.out.trans (HB1.out.mono (by simp))).trans HB2.out⟩

set_option maxHeartbeats 4000000 in
set_option maxRecDepth 100000 in
theorem code_other (fs : List Fr) (v : Value) (w : World) (h : Chain w (.iface 47 (.agg #[])) fs v) (hl : fs.length ≤ 400000) :
    Calls Tryd.prog 13 #[v] w fun e w' => e = .returned (.int .i64 16) ∧ Below w.heap.size w w' := by
  obtain ⟨t, y, rfl⟩ := h.iface
  have hB0 : Below w.heap.size w (w.alloc (.cells #[.int .i64 0] 31)) := (Below.refl _ _).alloc (Nat.le_refl _) _
  have HC := Lib.hid (h.below hB0)
  have HB0 := Lib.hid hB0
  clear h hB0
  go_enter Tryd.func13, Tryd.ntmps13
  go_wp2_with (go_at_call 22; refine (coded_none fs _ _ _ (.inr rfl) HC.out hl).mono ?_; rintro e w1 ⟨rfl, hB⟩; have HB1 := Lib.hid hB; clear hB)
  go_wp2_with (go_at_call 21; refine (errAs_nil _ _).mono ?_; rintro e w2 ⟨rfl, rfl⟩)
  go_wp2
  go_ret
  exact ⟨rfl, HB0.out.trans (HB1.out.mono (by simp))⟩
end Go.Proofs.YtnmjcfpmljahcaaDoor
