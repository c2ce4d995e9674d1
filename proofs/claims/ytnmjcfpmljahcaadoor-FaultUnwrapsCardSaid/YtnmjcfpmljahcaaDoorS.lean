/- The walk of FaultOps at operations. -/
import Derived.Test.YtnmjcfpmljahcaaDoorR
namespace Go.Proofs.YtnmjcfpmljahcaaDoor
open Go.RowKit

set_option maxHeartbeats 8000000 in
set_option maxRecDepth 100000 in
theorem ops_some (A : Option Addr) (c : Nat) (l : List St) (code : Int) (w : World) (hA : SA w A l) (hv : ErrVar w) (hlong : longB l = false) (hne : 0 < l.length) :
    Calls Tryd.prog 6 #[.slice A l.length c, .int .i64 code] w (Yes w) := by
  have hs := (short_facts hlong).1
  have HA := Lib.hid hA
  have HV := Lib.hid hv
  have HL := Lib.hid hlong
  clear hA hv hlong
  go_enter Tryd.func6, Tryd.ntmps6
  go_wp2_with (go_at_call 9; refine (long_c A c l _ HA.out (by omega)).mono ?_; rw [HL.out]; rintro e w1 ⟨rfl, hB⟩; have HB1 := Lib.hid hB; clear hB)
  refine (build_c A c l code _ (HA.out.below HB1.out) (by omega)).mono ?_
  rintro e w2 ⟨v, fs, rfl, hf, hC, hB⟩
  have hfl := len_map hf
  obtain ⟨f0, r, rfl⟩ : ∃ f0 r, fs = f0 :: r := by
    cases fs with
    | nil => simp at hfl; omega
    | cons f r => exact ⟨f, r, rfl⟩
  have hC0 := hC
  obtain ⟨rfl, v', hh, _⟩ := hC0
  have HF := Lib.hid hf
  have HC := Lib.hid hC
  have HH := Lib.hid hh
  have HB2 := Lib.hid (HB1.out.trans (hB.mono HB1.out.size))
  clear hB hC hf hh
  go_wp2_with fail
  refine (ops_c (f0 :: r) _ _ _ HC.out (.inr (.inl ⟨code, rfl⟩)) (by omega)).mono ?_
  rintro e w3 ⟨g, rfl, hg, hB⟩
  rw [hfl] at hg ⊢
  have HG := Lib.hid hg
  have HH3 : Hid (w3.heap[f0.b]? = some (.cells #[.string f0.op, .int .i64 f0.n, v'] 42 (0, 0))) := by show w3.heap[f0.b]? = _; rw [hB.block _ (lt_of_heap HH.out)]; exact HH.out
  have HB3 := Lib.hid (HB2.out.trans (hB.mono HB2.out.size))
  clear hB hg
  go_wp2_with fail
  refine (first_some f0.b _ _ _ _ HH3.out).mono ?_
  rintro e w4 ⟨rfl, hB⟩
  have HG4 : Hid (w4.heap[g]? = some (.cells (opCells (f0 :: r) l.length) 9 (0, 0))) := by show w4.heap[g]? = _; rw [hB.block _ (lt_of_heap HG.out)]; exact HG.out
  have HB4 := Lib.hid (HB3.out.trans (hB.mono HB3.out.size))
  clear hB
  go_wp2_with fail
  go_loopg [41] l.length (fun gg i wr => ∃ k : Nat, i = .int .i64 k ∧ k ≤ l.length ∧ l.length - k = gg ∧ Below w4.heap.size w4 wr)
  case atStart => exact ⟨0, rfl, by omega, by omega, Below.refl _ _⟩
  case round =>
    obtain ⟨k, rfl, hk, rfl, hB⟩ := hrel
    by_cases hlt : k < l.length
    · obtain ⟨s, hsk⟩ : ∃ s, l[k]? = some s := ⟨_, List.getElem?_eq_getElem hlt⟩
      obtain ⟨b, o, rfl, g1, g2⟩ := HA.out k s hsk
      obtain ⟨f, hfk, hop, _⟩ := fr_rev HF.out hsk
      have hBw : Below w.heap.size w wr := HB4.out.trans (hB.mono HB4.out.size)
      have c1 : wr.cell? ⟨b, o + k * 2, none⟩ = some (.string s.op) := by rw [hBw.cell (lt_of_cell g1)]; exact g1
      have c2 : wr.cell? ⟨b, o + k * 2 + 1, none⟩ = some (.int .i64 s.n) := by rw [hBw.cell (lt_of_cell g2)]; exact g2
      obtain ⟨j, hj⟩ : ∃ j : Nat, j = l.length - 1 - k := ⟨_, rfl⟩
      rw [← hj] at hfk
      have hgw : wr.heap[g]? = some (.cells (opCells (f0 :: r) l.length) 9 (0, 0)) := by rw [hB.block _ (lt_of_heap HG4.out)]; exact HG4.out
      have c3 : wr.cell? ⟨g, j, none⟩ = some (.string s.op) := by rw [cell_of_cells hgw, opCells_at _ _ j f hfk (by omega), hop]
      have e1 : (l.length : Int) - 1 - (k : Int) = (j : Int) := by omega
      have hglt : g < wr.heap.size := lt_of_heap hgw
      have hjl : j < l.length := by omega
      have c4 : (wr.alloc (.cells #[.string s.op, .int .i64 s.n] 40)).cell? ⟨g, j, none⟩ = some (.string s.op) := by rw [World.cell?_alloc_lt _ _ ⟨g, j, none⟩ hglt]; exact c3
      have HBW := Lib.hid hB
      have HE := Lib.hid e1
      clear hsk g1 g2 hfk hop hBw hj hgw hB c3 hglt
      go_wp2_with fail
      go_quiet (fail)
      go_wp2
      go_roundg (l.length - (k + 1))
      case measure => omega
      case rel => exact ⟨k + 1, by go_num, by omega, rfl, below_drewN (HBW.out.alloc HBW.out.size _) _⟩
    · have hkk : k = l.length := by omega
      subst hkk
      obtain ⟨s, hsk⟩ : ∃ s, l[l.length - 1]? = some s := ⟨_, List.getElem?_eq_getElem (by omega)⟩
      obtain ⟨b, o, rfl, g1, g2⟩ := HA.out _ s hsk
      obtain ⟨f, hfk, hop, hfn⟩ := fr_rev HF.out hsk
      rw [show l.length - 1 - (l.length - 1) = 0 by omega] at hfk
      obtain rfl : f0 = f := by simpa using hfk
      have hBw : Below w.heap.size w wr := HB4.out.trans (hB.mono HB4.out.size)
      obtain ⟨j, hj⟩ : ∃ j : Nat, j = l.length - 1 := ⟨_, rfl⟩
      rw [← hj] at g1 g2
      have c1 : wr.cell? ⟨b, o + j * 2, none⟩ = some (.string s.op) := by rw [hBw.cell (lt_of_cell g1)]; exact g1
      have c2 : wr.cell? ⟨b, o + j * 2 + 1, none⟩ = some (.int .i64 s.n) := by rw [hBw.cell (lt_of_cell g2)]; exact g2
      have e1 : (l.length : Int) - 1 = (j : Int) := by omega
      have hjl : j < l.length := by omega
      have hl0 : ((l.length : Int) == 0) = false := by
        rw [beq_eq_false_iff_ne]; omega
      rw [hop, hfn]
      have HBW := Lib.hid hBw
      have hvr := HV.out.below hBw
      have hV2 : ErrVar (wr.alloc (.cells #[.string s.op, .int .i64 s.n] 40)) := hvr.below ((Below.refl _ _).alloc (Nat.le_refl _) _)
      have HV2 := Lib.hid hV2
      have hb2 : Below w.heap.size w (wr.alloc (.cells #[.string s.op, .int .i64 s.n] 40)) := hBw.alloc hBw.size _
      have HB2' := Lib.hid hb2
      clear hsk g1 g2 hfk hop hfn hBw hB hj hvr hV2 hb2
      go_wp2_with fail
      refine (alive_c _ HV2.out).mono ?_
      rintro e w5 ⟨rfl, hB5⟩
      have c3 : w5.cell? ⟨wr.heap.size, 0, none⟩ = some (.string s.op) := by rw [hB5.cell (p := ⟨wr.heap.size, 0, none⟩) (by simp)]; simp
      have c4 : w5.cell? ⟨wr.heap.size, 1, none⟩ = some (.int .i64 s.n) := by rw [hB5.cell (p := ⟨wr.heap.size, 1, none⟩) (by simp)]; simp
      have HB5 := Lib.hid (HB2'.out.trans (hB5.mono HB2'.out.size))
      clear hB5
      go_wp2
      go_ret
      exact ⟨rfl, HB5.out⟩

theorem ops_w (A : Option Addr) (c : Nat) (l : List St) (code : Int) (w : World) (hA : SA w A l) (hl : l.length ≤ 9223372036854775807) (hv : ErrVar w) :
    Calls Tryd.prog 6 #[.slice A l.length c, .int .i64 code] w (Yes w) := by
  cases hlong : longB l with
  | true => exact ops_long A c l code w hA hl hv hlong
  | false =>
    rcases Nat.eq_zero_or_pos l.length with h | h
    · obtain rfl : l = [] := List.length_eq_zero_iff.1 h
      exact ops_none A c code w hA hv
    · exact ops_some A c l code w hA hv hlong h
end Go.Proofs.YtnmjcfpmljahcaaDoor
