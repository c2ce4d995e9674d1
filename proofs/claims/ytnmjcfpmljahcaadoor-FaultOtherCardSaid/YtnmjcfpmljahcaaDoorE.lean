/- The contracts of errors.Is and Is. -/
import Derived.Test.YtnmjcfpmljahcaaDoorD
import Derived.LaidEql
import Derived.Stop.Asserts
import Derived.Laws.Externs
namespace Go.Proofs.YtnmjcfpmljahcaaDoor
open Go.RowKit Go.Extern.Stop Go.Stop Go.Extern

@[go_sem] theorem ta94_44 (v : Value) (w : World) : (Instr.typeAssert (.iface 44 v) 26 94 true).run Tryd.prog w = .ok (.tuple #[.nilIface, .bool false]) w := run_typeAssert_lacksB Tryd.underlying94 (by kernel_rfl) (by kernel_rfl) v 26 w
@[go_sem] theorem ta94_31 (v : Value) (w : World) : (Instr.typeAssert (.iface 31 v) 26 94 true).run Tryd.prog w = .ok (.tuple #[.nilIface, .bool false]) w := run_typeAssert_lacksB Tryd.underlying94 (by kernel_rfl) (by kernel_rfl) v 26 w
@[go_sem] theorem ta90_44 (v : Value) (w : World) : (Instr.typeAssert (.iface 44 v) 26 90 true).run Tryd.prog w = .ok (.tuple #[.iface 44 v, .bool true]) w := run_typeAssert_hasB Tryd.underlying90 (by kernel_rfl) v 26 w
@[go_sem] theorem ta90_31 (v : Value) (w : World) : (Instr.typeAssert (.iface 31 v) 26 90 true).run Tryd.prog w = .ok (.tuple #[.nilIface, .bool false]) w := run_typeAssert_lacksB Tryd.underlying90 (by kernel_rfl) (by kernel_rfl) v 26 w
@[go_sem] theorem ta91_31 (v : Value) (w : World) : (Instr.typeAssert (.iface 31 v) 26 91 true).run Tryd.prog w = .ok (.tuple #[.nilIface, .bool false]) w := run_typeAssert_lacksB Tryd.underlying91 (by kernel_rfl) (by kernel_rfl) v 26 w
@[go_sem] theorem eq_44_31 (x y : Value) (w : World) : (binOp .eql 26 (.iface 44 x) (.iface 31 y)).run Tryd.prog w = .ok (.bool false) w := run_eql_iface_types 44 31 x y Tryd.underlying26 (by decide) w
@[go_sem] theorem eq_nil_31 (x : Value) (w : World) : (binOp .eql 26 .nilIface (.iface 31 x)).run Tryd.prog w = .ok (.bool false) w := by kernel_rfl
theorem eq_31_31 (c e : Int) (w : World) : (binOp .eql 26 (.iface 31 (.int .i64 c)) (.iface 31 (.int .i64 e))).run Tryd.prog w = .ok (.bool (c == e)) w := by
  kernel_rfl

theorem m_unwrap (h : Value) (w : World) : (Go.method 242 44 h "Unwrap").run Tryd.prog w = .ok (17, h) w := by kernel_rfl
theorem na_unwrap (a : Addr) (w : World) : (nilAhead 242 44 (.pointer (some a)) "Unwrap").run Tryd.prog w = .ok (some false) w := by kernel_rfl

set_option maxHeartbeats 4000000 in
set_option maxRecDepth 100000 in
theorem eis_c (fs : List Fr) (c x : Int) (v : Value) (w : World) (h : Chain w (.iface 31 (.int .i64 c)) fs v) :
    Calls Tryd.prog 34 #[v, .iface 31 (.int .i64 x), .bool true] w fun e w' => e = .returned (.bool (c == x)) ∧ Below w.heap.size w w' := by
  go_enter Tryd.func34, Tryd.ntmps34
  go_wp2
  go_loopg [0] fs.length (fun gg err wr => ∃ gs : List Fr, gs.length = gg ∧ Chain wr (.iface 31 (.int .i64 c)) gs err ∧ Below w.heap.size w wr)
  case atStart => exact ⟨fs, rfl, h, Below.refl _ _⟩
  case round =>
    obtain ⟨gs, rfl, hC, hB⟩ := hrel
    have HB := Lib.hid hB
    clear hB h
    cases gs with
    | nil =>
      obtain rfl : _ = Value.iface 31 (.int .i64 c) := hC
      have heq := eq_31_31 c x wr
      go_wp2
      · have hx : (c == x) = true := by assumption
        go_ret
        exact ⟨ret_bool hx.symm, HB.out⟩
      · have hx : (c == x) = false := by assumption
        go_ret
        exact ⟨ret_bool hx.symm, HB.out⟩
    | cons f r =>
      obtain ⟨rfl, v', hh, hC'⟩ := hC
      obtain ⟨t, y, rfl⟩ := hC'.iface
      have HH := Lib.hid hh
      have HC := Lib.hid hC'
      clear hh hC'
      have mU := m_unwrap
      have nU := na_unwrap
      go_wp2_with (go_at_call 17; refine (unwrap_c f.b _ _ _ _ HH.out).mono ?_; rintro e w' ⟨rfl, rfl⟩)
      go_roundg r.length
      case measure => simp
      case rel => exact ⟨r, rfl, HC.out, HB.out⟩

theorem typeOf31 (v : Value) (w : World) : (ReflectliteType.typeOf #[.iface 31 v]).run Tryd.prog w = .ok (.iface 83 (.agg #[.pointer (some ⟨4, 31, none⟩)])) w := by kernel_rfl
theorem na_comparable (h : Value) (w : World) : (nilAhead 242 83 (.agg #[h]) "Comparable").run Tryd.prog w = .ok (some false) w := by kernel_rfl
theorem comparable31 (w : World) : (ReflectliteType.method (fun t => do Rtype.noPackHeld "Comparable" t; pure (.bool (← typeInfo t).comparable)) #[.agg #[.pointer (some ⟨4, 31, none⟩)]]).run Tryd.prog w = .ok (.bool true) w := by kernel_rfl
theorem m_comparable (h : Value) (w : World) : (Go.method 242 83 (.agg #[h]) "Comparable").run Tryd.prog w = .ok (78, .agg #[h]) w := by kernel_rfl

theorem call_typeOf31 (v : Value) (w : World) : (callFunc 33 #[.iface 31 v]).run Tryd.prog w = .ok (.value (.iface 83 (.agg #[.pointer (some ⟨4, 31, none⟩)]))) w := by
  rw [@run_callFunc_extern Tryd.prog 33 _ ReflectliteType.typeOf Tryd.func33 (by kernel_rfl) (by kernel_rfl) (by kernel_rfl) (by kernel_rfl), typeOf31]
  rfl
theorem call_comparable31 (w : World) : (callFunc 78 #[.agg #[.pointer (some ⟨4, 31, none⟩)]]).run Tryd.prog w = .ok (.value (.bool true)) w := by
  rw [@run_callFunc_extern Tryd.prog 78 _ (ReflectliteType.method (fun t => do Rtype.noPackHeld "Comparable" t; pure (.bool (← typeInfo t).comparable))) Tryd.func78 (by kernel_rfl) (by kernel_rfl) (by kernel_rfl) (by kernel_rfl), comparable31]
  rfl

set_option maxHeartbeats 4000000 in
set_option maxRecDepth 100000 in
theorem errIs_c (fs : List Fr) (c x : Int) (v : Value) (w : World) (h : Chain w (.iface 31 (.int .i64 c)) fs v) :
    Calls Tryd.prog 23 #[v, .iface 31 (.int .i64 x)] w fun e w' => e = .returned (.bool (c == x)) ∧ Below w.heap.size w w' := by
  obtain ⟨t, y, rfl⟩ := h.iface
  have H := Lib.hid h
  clear h
  have h33 := call_typeOf31
  have h78 := call_comparable31
  have mC := m_comparable
  have nC := na_comparable
  go_enter Tryd.func23, Tryd.ntmps23
  go_wp2_with (go_at_call 34; refine (eis_c fs c x _ _ H.out).mono ?_; rintro e w1 ⟨rfl, hB⟩; have HB := Lib.hid hB; clear hB)
  go_ret
  exact ⟨rfl, HB.out⟩
set_option maxRecDepth 100000 in
theorem errIs_nil (x : Int) (w : World) :
    Calls Tryd.prog 23 #[.nilIface, .iface 31 (.int .i64 x)] w fun e w' => e = .returned (.bool false) ∧ w = w' := by
  go_enter Tryd.func23, Tryd.ntmps23
  go_wp2
  go_ret
  exact ⟨rfl, rfl⟩

set_option maxHeartbeats 4000000 in
set_option maxRecDepth 100000 in
theorem is_some (fs : List Fr) (c x : Int) (v : Value) (w : World) (h : Chain w (.iface 31 (.int .i64 c)) fs v) (hl : fs.length ≤ 400000) :
    Calls Tryd.prog 14 #[v, .int .i64 x] w fun e w' => e = .returned (.bool (c == x)) ∧ Below w.heap.size w w' := by
  have H := Lib.hid h
  clear h
  go_enter Tryd.func14, Tryd.ntmps14
  go_wp2_with (go_at_call 22; refine (coded_some fs c v _ H.out hl).mono ?_; rintro e w1 ⟨rfl, hB⟩; have HB := Lib.hid hB; clear hB)
  go_wp2_with (go_at_call 23; refine (errIs_c fs c x _ _ (H.out.below HB.out)).mono ?_; rintro e w2 ⟨rfl, hB⟩; have HB2 := Lib.hid hB; clear hB)
  go_ret
  exact ⟨rfl, HB.out.trans (HB2.out.mono HB.out.size)⟩
set_option maxHeartbeats 4000000 in
set_option maxRecDepth 100000 in
theorem is_none (fs : List Fr) (leaf : Value) (x : Int) (v : Value) (w : World) (hleaf : leaf = .nilIface ∨ leaf = .iface 47 (.agg #[])) (h : Chain w leaf fs v) (hl : fs.length ≤ 400000) :
    Calls Tryd.prog 14 #[v, .int .i64 x] w fun e w' => e = .returned (.bool false) ∧ Below w.heap.size w w' := by
  have H := Lib.hid h
  have HL := Lib.hid hleaf
  clear h hleaf
  go_enter Tryd.func14, Tryd.ntmps14
  go_wp2_with (go_at_call 22; refine (coded_none fs leaf v _ HL.out H.out hl).mono ?_; rintro e w1 ⟨rfl, hB⟩; have HB := Lib.hid hB; clear hB)
  go_wp2_with (go_at_call 23; refine (errIs_nil _ _).mono ?_; rintro e w2 ⟨rfl, rfl⟩)
  go_ret
  exact ⟨rfl, HB.out⟩
end Go.Proofs.YtnmjcfpmljahcaaDoor
