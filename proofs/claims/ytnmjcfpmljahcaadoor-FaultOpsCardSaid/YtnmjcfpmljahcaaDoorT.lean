/- The walk of FaultUnwraps. -/
import Derived.Test.YtnmjcfpmljahcaaDoorS
import Derived.Test.YtnmjcfpmljahcaaDoorN
namespace Go.Proofs.YtnmjcfpmljahcaaDoor
open Go.RowKit

theorem ferror_nil (w : World) : Calls Tryd.prog 18 #[.pointer none] w fun e w' => e = .returned (.string ⟨#[]⟩) ∧ w = w' := by
  go_enter Tryd.func18, Tryd.ntmps18
  go_wp2
  go_ret
  exact ⟨rfl, rfl⟩

set_option maxHeartbeats 8000000 in
set_option maxRecDepth 100000 in
theorem unwraps_long (A : Option Addr) (c : Nat) (l : List St) (op : ByteArray) (n code : Int) (w : World) (hA : SA w A l) (hl : l.length ≤ 9223372036854775807) (hv : ErrVar w) (hlong : longB l = true) :
    Calls Tryd.prog 7 #[.slice A l.length c, .agg #[.string op, .int .i64 n], .int .i64 code] w (Yes w) := by
  have hb0 : Below w.heap.size w (w.alloc (.cells #[.string op, .int .i64 n] 40)) := (Below.refl _ _).alloc (Nat.le_refl _) _
  have HA := Lib.hid (hA.below hb0)
  have HV := Lib.hid (hv.below hb0)
  have HB0 := Lib.hid hb0
  have HL := Lib.hid hlong
  clear hA hv hb0 hlong
  go_enter Tryd.func7, Tryd.ntmps7
  go_wp2_with (go_at_call 9; refine (long_c A c l _ HA.out hl).mono ?_; rw [HL.out]; rintro e w1 ⟨rfl, hB⟩; have HB1 := Lib.hid (HB0.out.trans (hB.mono HB0.out.size)); have HV1 := Lib.hid (HV.out.below hB); clear hB)
  go_wp2_with fail
  refine (alive_c _ HV1.out).mono ?_
  rintro e w2 ⟨rfl, hB⟩
  have HB2 := Lib.hid (HB1.out.trans (hB.mono HB1.out.size))
  clear hB
  go_wp2
  go_ret
  exact ⟨rfl, HB2.out⟩

set_option maxHeartbeats 8000000 in
set_option maxRecDepth 100000 in
theorem unwraps_big (A : Option Addr) (c : Nat) (l : List St) (op : ByteArray) (n code : Int) (w : World) (hA : SA w A l) (hl : l.length ≤ 9223372036854775807) (hv : ErrVar w) (hlong : longB l = false) (hop : 1000 < op.size) (hop2 : op.size ≤ 9223372036854775807) :
    Calls Tryd.prog 7 #[.slice A l.length c, .agg #[.string op, .int .i64 n], .int .i64 code] w (Yes w) := by
  have hb0 : Below w.heap.size w (w.alloc (.cells #[.string op, .int .i64 n] 40)) := (Below.refl _ _).alloc (Nat.le_refl _) _
  have hh : (w.alloc (.cells #[.string op, .int .i64 n] 40)).heap[w.heap.size]? = some (.cells #[.string op, .int .i64 n] 40 (0, 0)) := heap_alloc_new w _
  have HA := Lib.hid (hA.below hb0)
  have HV := Lib.hid (hv.below hb0)
  have HB0 := Lib.hid hb0
  have HL := Lib.hid hlong
  have HH := Lib.hid hh
  have hd : (1000 : Int) < (op.size : Int) := by omega
  clear hA hv hb0 hlong hh
  go_enter Tryd.func7, Tryd.ntmps7
  go_wp2_with (go_at_call 9; refine (long_c A c l _ HA.out hl).mono ?_; rw [HL.out]; rintro e w1 ⟨rfl, hB⟩; have c1 : w1.cell? ⟨w.heap.size, 0, none⟩ = some (.string op) := (by rw [hB.cell (p := ⟨w.heap.size, 0, none⟩) (lt_of_heap HH.out), cell_of_cells HH.out]; rfl); have HB1 := Lib.hid (HB0.out.trans (hB.mono HB0.out.size)); have HV1 := Lib.hid (HV.out.below hB); clear hB)
  go_wp2_with fail
  refine (alive_c _ HV1.out).mono ?_
  rintro e w2 ⟨rfl, hB⟩
  have HB2 := Lib.hid (HB1.out.trans (hB.mono HB1.out.size))
  clear hB
  go_wp2
  go_ret
  exact ⟨rfl, HB2.out⟩

theorem Fits.rev {l : List St} (h : Fits l) : Fits l.reverse := fun s hs => h s (List.mem_reverse.1 hs)
/-- The text of the error that build made, asked through the interface. -/
theorem anyText (fs : List Fr) (l : List St) (b : Nat) (code : Int) (w : World) (hf : fs.map Fr.st = l.reverse) (hC : Chain w (.iface 31 (.int .i64 code)) fs (.iface 44 (.pointer (some ⟨b, 0, none⟩)))) (hfit : Fits l) (ht : Tab w) (h0 : -9223372036854775808 ≤ code) (h1 : code ≤ 9223372036854775807) (hl : l.length ≤ 400000) :
    Calls Tryd.prog 18 #[.pointer (some ⟨b, 0, none⟩)] w fun e w' => e = .returned (.string ⟨(textL l.reverse (errText code)).toArray⟩) ∧ Below w.heap.size w w' := by
  have hfl := len_map hf
  have hf2 : Fits (fs.map Fr.st) := by rw [hf]; exact hfit.rev
  refine (ferror_c fs code b w hC hf2 (fun f hm => .inr ⟨?_, ht⟩) (.inr ⟨⟨h0, h1⟩, ht⟩) (by omega)).mono ?_
  · have := hf2 f.st (List.mem_map.2 ⟨f, hm, rfl⟩)
    exact ⟨this.1, this.2.1⟩
  · rw [hf]
    intro e w' h
    exact h

set_option maxHeartbeats 16000000 in
set_option maxRecDepth 100000 in
theorem unwraps_main (A : Option Addr) (c : Nat) (l : List St) (op : ByteArray) (n code : Int) (w : World) (hA : SA w A l) (hv : ErrVar w) (ht : Tab w) (hlong : longB l = false) (hop : op.size ≤ 1000) (hfit : Fits l) (h0 : -9223372036854775808 ≤ code) (h1 : code ≤ 9223372036854775807) :
    Calls Tryd.prog 7 #[.slice A l.length c, .agg #[.string op, .int .i64 n], .int .i64 code] w (Yes w) := by
  have hs := (short_facts hlong).1
  have hb0 : Below w.heap.size w (w.alloc (.cells #[.string op, .int .i64 n] 40)) := (Below.refl _ _).alloc (Nat.le_refl _) _
  have hh : (w.alloc (.cells #[.string op, .int .i64 n] 40)).heap[w.heap.size]? = some (.cells #[.string op, .int .i64 n] 40 (0, 0)) := heap_alloc_new w _
  have HA0 := Lib.hid hA
  have HV0 := Lib.hid hv
  have HT0 := Lib.hid ht
  have HA := Lib.hid (hA.below hb0)
  have HB0 := Lib.hid hb0
  have HL := Lib.hid hlong
  have HH := Lib.hid hh
  have HF := Lib.hid hfit
  have hd : ¬ (1000 : Int) < (op.size : Int) := by omega
  clear hA hv hb0 hlong hh ht hfit
  go_enter Tryd.func7, Tryd.ntmps7
  go_wp2_with (go_at_call 9; refine (long_c A c l _ HA.out (by omega)).mono ?_; rw [HL.out]; rintro e w1 ⟨rfl, hB⟩; have c1 : w1.cell? ⟨w.heap.size, 0, none⟩ = some (.string op) := (by rw [hB.cell (p := ⟨w.heap.size, 0, none⟩) (lt_of_heap HH.out), cell_of_cells HH.out]; rfl); have HB1 := Lib.hid (HB0.out.trans (hB.mono HB0.out.size)); have HBB := Lib.hid hB; clear hB)
  refine (build_c A c l code _ (HA0.out.below HB1.out) (by omega)).mono ?_
  rintro e w2 ⟨v, fs, rfl, hf, hC, hB⟩
  have hfl := len_map hf
  have c2 : w2.cell? ⟨w.heap.size, 0, none⟩ = some (.string op) := by rw [hB.cell (p := ⟨w.heap.size, 0, none⟩) (lt_of_cell c1)]; exact c1
  have c3 : w2.cell? ⟨w.heap.size, 1, none⟩ = some (.int .i64 n) := by
    rw [hB.cell (p := ⟨w.heap.size, 1, none⟩) (show w.heap.size < w1.heap.size from lt_of_cell c1), HBB.out.cell (p := ⟨w.heap.size, 1, none⟩) (lt_of_heap HH.out), cell_of_cells HH.out]; rfl
  have HC := Lib.hid hC
  have HF2 := Lib.hid hf
  have HB2 := Lib.hid (HB1.out.trans (hB.mono HB1.out.size))
  clear hB hC hf c1
  obtain ⟨t, x, rfl⟩ := HC.out.iface
  obtain ⟨W, hW⟩ : ∃ W, W = w2.alloc (.cells #[.string op, .int .i64 n, .iface t x] 42) := ⟨_, rfl⟩
  have hhW : W.heap[w2.heap.size]? = some (.cells #[.string op, .int .i64 n, .iface t x] 42 (0, 0)) := by rw [hW]; exact heap_alloc_new w2 _
  have hbW : Below w2.heap.size w2 W := by rw [hW]; exact (Below.refl _ _).alloc (Nat.le_refl _) _
  have HWW := Lib.hid hW
  have HHW := Lib.hid hhW
  have HCW := Lib.hid (HC.out.below hbW)
  have HBW := Lib.hid (HB2.out.trans (hbW.mono HB2.out.size))
  clear hW hhW hbW
  go_wp2_with fail
  rw [← HWW.out]
  refine (unwrap_c w2.heap.size _ _ _ _ HHW.out).mono ?_
  rintro e w' ⟨rfl, rfl⟩
  clear c2 c3
  go_wp2_with fail
  refine (alive_c _ (HV0.out.below HBW.out)).mono ?_
  rintro e w3 ⟨rfl, hB⟩
  have HC3 := Lib.hid (HCW.out.below hB)
  have HH3 : Hid (w3.heap[w2.heap.size]? = some (.cells #[.string op, .int .i64 n, .iface t x] 42 (0, 0))) := by show w3.heap[w2.heap.size]? = _; rw [hB.block _ (lt_of_heap HHW.out)]; exact HHW.out
  have HB3 := Lib.hid (HBW.out.trans (hB.mono HBW.out.size))
  clear hB
  obtain ⟨T, hT⟩ : ∃ T : ByteArray, T = ⟨(textL l.reverse (errText code)).toArray⟩ := ⟨_, rfl⟩
  have HR : Hid (∀ w', Below w.heap.size w w' → Calls Tryd.prog 12 #[.slice A l.length c, .int .i64 code] w' fun e w'' => e = .returned (.string T) ∧ Below w'.heap.size w' w'') := fun w' hb => by
    rw [hT]; exact rtext_c A c l code w' (HA0.out.below hb) (by omega) HF.out h0 h1
  have HE : Hid (Calls Tryd.prog 70 #[.int .i64 code] w3 fun e w' => fs = [] → (e = .returned (.string T) ∧ Below w3.heap.size w3 w')) := by
    refine (errno_c code w3 (.inr ⟨⟨h0, h1⟩, HT0.out.below HB3.out⟩)).mono fun e w' ⟨he, hb⟩ hn => ⟨?_, hb⟩
    have hr : l.reverse = [] := by rw [← HF2.out, hn]; rfl
    rw [he, hT, hr]
    rfl
  have HG : Hid (∀ b, .iface t x = Value.iface 44 (.pointer (some ⟨b, 0, none⟩)) → Calls Tryd.prog 18 #[.pointer (some ⟨b, 0, none⟩)] w3 fun e w' => e = .returned (.string T) ∧ Below w3.heap.size w3 w') := fun b hb => by
    rw [hT]
    exact anyText fs l b code w3 HF2.out (by rw [← hb]; exact HC3.out) HF.out (HT0.out.below HB3.out) h0 h1 (by omega)
  clear hT
  have m31 := m_error31
  have n31 := na_error31
  have m44 := m_error44
  have n44 := na_error44
  cases fs with
  | nil =>
    have hv : Value.iface t x = .iface 31 (.int .i64 code) := HC3.out
    injection hv with e1 e2
    subst e1; subst e2
    go_wp2_with fail
    refine (HE.out).mono ?_
    intro e w4 hew
    obtain ⟨rfl, hB⟩ := hew (by simp)
    have HC4 := Lib.hid (HC3.out.below hB)
    have HH4 : Hid (w4.heap[w2.heap.size]? = some (.cells #[.string op, .int .i64 n, .iface 31 (.int .i64 code)] 42 (0, 0))) := by show w4.heap[w2.heap.size]? = _; rw [hB.block _ (lt_of_heap HH3.out)]; exact HH3.out
    have HB4 := Lib.hid (HB3.out.trans (hB.mono HB3.out.size))
    clear hB
    go_wp2_with fail
    refine (HR.out _ HB4.out).mono ?_
    rintro e w5 ⟨rfl, hB⟩
    have HC5 := Lib.hid (HC4.out.below hB)
    have HH5 : Hid (w5.heap[w2.heap.size]? = some (.cells #[.string op, .int .i64 n, .iface 31 (.int .i64 code)] 42 (0, 0))) := by show w5.heap[w2.heap.size]? = _; rw [hB.block _ (lt_of_heap HH4.out)]; exact HH4.out
    have HB5 := Lib.hid (HB4.out.trans (hB.mono HB4.out.size))
    clear hB
    go_wp2_with fail
    refine (code_some _ code _ _ HC5.out (HV0.out.below HB5.out) (by omega)).mono ?_
    rintro e w6 ⟨rfl, hB⟩
    have HC6 := Lib.hid (HC5.out.below hB)
    have HH6 : Hid (w6.heap[w2.heap.size]? = some (.cells #[.string op, .int .i64 n, .iface 31 (.int .i64 code)] 42 (0, 0))) := by show w6.heap[w2.heap.size]? = _; rw [hB.block _ (lt_of_heap HH5.out)]; exact HH5.out
    have HB6 := Lib.hid (HB5.out.trans (hB.mono HB5.out.size))
    clear hB
    go_wp2_with fail
    refine (ops_c (⟨w2.heap.size, op, n⟩ :: []) (.iface 31 (.int .i64 code)) _ _ ⟨rfl, _, HH6.out, HC6.out⟩ (.inr (.inl ⟨code, rfl⟩)) (by simp)).mono ?_
    rintro e w7 ⟨g, rfl, _, hB⟩
    have HB7 := Lib.hid (HB6.out.trans (hB.mono HB6.out.size))
    clear hB
    rw [show (⟨w2.heap.size, op, n⟩ :: [] : List Fr).length = l.length + 1 by rw [List.length_cons, hfl]]
    go_wp2_with fail
    refine (unwrap_nil _).mono ?_
    rintro e w' ⟨rfl, rfl⟩
    go_wp2_with fail
    refine (ferror_nil _).mono ?_
    rintro e w' ⟨rfl, rfl⟩
    go_wp2
    go_ret
    exact ⟨rfl, HB7.out⟩
  | cons f r =>
    have hv : Value.iface t x = .iface 44 (.pointer (some ⟨f.b, 0, none⟩)) := HC3.out.1
    injection hv with e1 e2
    subst e1; subst e2
    go_wp2_with fail
    refine (HG.out f.b rfl).mono ?_
    rintro e w4 ⟨rfl, hB⟩
    have HC4 := Lib.hid (HC3.out.below hB)
    have HH4 : Hid (w4.heap[w2.heap.size]? = some (.cells #[.string op, .int .i64 n, .iface 44 (.pointer (some ⟨f.b, 0, none⟩))] 42 (0, 0))) := by show w4.heap[w2.heap.size]? = _; rw [hB.block _ (lt_of_heap HH3.out)]; exact HH3.out
    have HB4 := Lib.hid (HB3.out.trans (hB.mono HB3.out.size))
    clear hB
    go_wp2_with fail
    refine (HR.out _ HB4.out).mono ?_
    rintro e w5 ⟨rfl, hB⟩
    have HC5 := Lib.hid (HC4.out.below hB)
    have HH5 : Hid (w5.heap[w2.heap.size]? = some (.cells #[.string op, .int .i64 n, .iface 44 (.pointer (some ⟨f.b, 0, none⟩))] 42 (0, 0))) := by show w5.heap[w2.heap.size]? = _; rw [hB.block _ (lt_of_heap HH4.out)]; exact HH4.out
    have HB5 := Lib.hid (HB4.out.trans (hB.mono HB4.out.size))
    clear hB
    go_wp2_with fail
    refine (code_some _ code _ _ HC5.out (HV0.out.below HB5.out) (by omega)).mono ?_
    rintro e w6 ⟨rfl, hB⟩
    have HC6 := Lib.hid (HC5.out.below hB)
    have HH6 : Hid (w6.heap[w2.heap.size]? = some (.cells #[.string op, .int .i64 n, .iface 44 (.pointer (some ⟨f.b, 0, none⟩))] 42 (0, 0))) := by show w6.heap[w2.heap.size]? = _; rw [hB.block _ (lt_of_heap HH5.out)]; exact HH5.out
    have HB6 := Lib.hid (HB5.out.trans (hB.mono HB5.out.size))
    clear hB
    go_wp2_with fail
    refine (ops_c (⟨w2.heap.size, op, n⟩ :: f :: r) (.iface 31 (.int .i64 code)) _ _ ⟨rfl, _, HH6.out, HC6.out⟩ (.inr (.inl ⟨code, rfl⟩)) (by simp at hfl ⊢; omega)).mono ?_
    rintro e w7 ⟨g, rfl, _, hB⟩
    have HB7 := Lib.hid (HB6.out.trans (hB.mono HB6.out.size))
    clear hB
    rw [show (⟨w2.heap.size, op, n⟩ :: f :: r : List Fr).length = l.length + 1 by rw [List.length_cons, hfl]]
    go_wp2_with fail
    refine (unwrap_nil _).mono ?_
    rintro e w' ⟨rfl, rfl⟩
    go_wp2_with fail
    refine (ferror_nil _).mono ?_
    rintro e w' ⟨rfl, rfl⟩
    go_wp2
    go_ret
    exact ⟨rfl, HB7.out⟩

theorem unwraps_w (A : Option Addr) (c : Nat) (l : List St) (op : ByteArray) (n code : Int) (w : World) (hA : SA w A l) (hl : l.length ≤ 9223372036854775807) (hop : op.size ≤ 9223372036854775807) (hv : ErrVar w) (ht : Tab w)
    (hn : ∀ s ∈ l, -9223372036854775808 ≤ s.n ∧ s.n ≤ 9223372036854775807) (h0 : -9223372036854775808 ≤ code) (h1 : code ≤ 9223372036854775807) :
    Calls Tryd.prog 7 #[.slice A l.length c, .agg #[.string op, .int .i64 n], .int .i64 code] w (Yes w) := by
  cases hlong : longB l with
  | true => exact unwraps_long A c l op n code w hA hl hv hlong
  | false =>
    rcases Nat.lt_or_ge 1000 op.size with h | h
    · exact unwraps_big A c l op n code w hA hl hv hlong h hop
    · exact unwraps_main A c l op n code w hA hv ht hlong h (fun s hs => ⟨(hn s hs).1, (hn s hs).2, short_op hlong hs⟩) h0 h1
end Go.Proofs.YtnmjcfpmljahcaaDoor
