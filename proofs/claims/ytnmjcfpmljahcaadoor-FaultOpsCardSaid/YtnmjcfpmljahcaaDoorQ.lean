/- The walks of FaultIs and FaultOther. -/
import Derived.Test.YtnmjcfpmljahcaaDoorP
namespace Go.Proofs.YtnmjcfpmljahcaaDoor
open Go.RowKit

set_option maxHeartbeats 8000000 in
set_option maxRecDepth 100000 in
theorem is_w (A : Option Addr) (c : Nat) (l : List St) (code other : Int) (w : World) (hA : SA w A l) (hl : l.length ≤ 9223372036854775807) (hv : ErrVar w) :
    Calls Tryd.prog 5 #[.slice A l.length c, .int .i64 code, .int .i64 other] w (Yes w) := by
  have HA := Lib.hid hA
  have HV := Lib.hid hv
  clear hA hv
  cases hlong : longB l with
  | true =>
    have HL := Lib.hid hlong
    clear hlong
    go_enter Tryd.func5, Tryd.ntmps5
    go_wp2_with (go_at_call 9; refine (long_c A c l _ HA.out hl).mono ?_; rw [HL.out]; rintro e w1 ⟨rfl, hB⟩; have HB1 := Lib.hid hB; clear hB)
    go_wp2_with fail
    refine (alive_c _ (HV.out.below HB1.out)).mono ?_
    rintro e w2 ⟨rfl, hB⟩
    have HB2 := Lib.hid (HB1.out.trans (hB.mono HB1.out.size))
    clear hB
    go_wp2
    go_ret
    exact ⟨rfl, HB2.out⟩
  | false =>
    have hs := (short_facts hlong).1
    have HL := Lib.hid hlong
    clear hlong
    go_enter Tryd.func5, Tryd.ntmps5
    go_wp2_with (go_at_call 9; refine (long_c A c l _ HA.out hl).mono ?_; rw [HL.out]; rintro e w1 ⟨rfl, hB⟩; have HB1 := Lib.hid hB; clear hB)
    refine (build_c A c l code _ (HA.out.below HB1.out) (by omega)).mono ?_
    rintro e w2 ⟨v, fs, rfl, hf, hC, hB⟩
    have hfl := len_map hf
    have HC := Lib.hid hC
    have HB2 := Lib.hid (HB1.out.trans (hB.mono HB1.out.size))
    clear hB hC hf
    go_wp2_with fail
    refine (alive_c _ (HV.out.below HB2.out)).mono ?_
    rintro e w3 ⟨rfl, hB⟩
    have HC3 := Lib.hid (HC.out.below hB)
    have HB3 := Lib.hid (HB2.out.trans (hB.mono HB2.out.size))
    clear hB
    go_wp2_with fail
    refine (is_some fs code code v _ HC3.out (by omega)).mono ?_
    rw [show (code == code) = true by simp]
    rintro e w4 ⟨rfl, hB⟩
    have HC4 := Lib.hid (HC3.out.below hB)
    have HB4 := Lib.hid (HB3.out.trans (hB.mono HB3.out.size))
    clear hB
    go_wp2_with fail
    refine (is_some fs code other v _ HC4.out (by omega)).mono ?_
    rintro e w5 ⟨rfl, hB⟩
    have HB5 := Lib.hid (HB4.out.trans (hB.mono HB4.out.size))
    clear hB
    go_wp2_with fail
    refine (is_none [] .nilIface code .nilIface _ (.inl rfl) rfl (by simp)).mono ?_
    rintro e w6 ⟨rfl, hB⟩
    have HB6 := Lib.hid (HB5.out.trans (hB.mono HB5.out.size))
    clear hB
    go_wp2
    go_ret
    exact ⟨rfl, HB6.out⟩
set_option maxHeartbeats 8000000 in
set_option maxRecDepth 100000 in
theorem other_w (A : Option Addr) (c : Nat) (l : List St) (code : Int) (w : World) (hA : SA w A l) (hl : l.length ≤ 9223372036854775807) (hv : ErrVar w) :
    Calls Tryd.prog 8 #[.slice A l.length c, .int .i64 code] w (Yes w) := by
  have HA := Lib.hid hA
  have HV := Lib.hid hv
  clear hA hv
  cases hlong : longB l with
  | true =>
    have HL := Lib.hid hlong
    clear hlong
    go_enter Tryd.func8, Tryd.ntmps8
    go_wp2_with (go_at_call 9; refine (long_c A c l _ HA.out hl).mono ?_; rw [HL.out]; rintro e w1 ⟨rfl, hB⟩; have HB1 := Lib.hid hB; clear hB)
    go_wp2_with fail
    refine (alive_c _ (HV.out.below HB1.out)).mono ?_
    rintro e w2 ⟨rfl, hB⟩
    have HB2 := Lib.hid (HB1.out.trans (hB.mono HB1.out.size))
    clear hB
    go_wp2
    go_ret
    exact ⟨rfl, HB2.out⟩
  | false =>
    have hs := (short_facts hlong).1
    have HL := Lib.hid hlong
    clear hlong
    go_enter Tryd.func8, Tryd.ntmps8
    go_wp2_with (go_at_call 9; refine (long_c A c l _ HA.out hl).mono ?_; rw [HL.out]; rintro e w1 ⟨rfl, hB⟩; have HB1 := Lib.hid hB; clear hB)
    go_loopg [5, 15] l.length (fun gg err i wr => ∃ (k : Nat) (fs : List Fr), i = .int .i64 k ∧ k ≤ l.length ∧ l.length - k = gg ∧ fs.map Fr.st = (l.take k).reverse ∧ Chain wr (.iface 47 (.agg #[])) fs err ∧ Below w.heap.size w wr)
    case atStart => exact ⟨0, [], rfl, by omega, by omega, by simp, rfl, HB1.out⟩
    case round =>
      obtain ⟨k, fs, rfl, hk, rfl, hf, hC, hB⟩ := hrel
      by_cases hlt : k < l.length
      · obtain ⟨s, hs⟩ : ∃ s, l[k]? = some s := ⟨_, List.getElem?_eq_getElem hlt⟩
        obtain ⟨b, o, rfl, h1, h2⟩ := HA.out k s hs
        have c1 : wr.cell? ⟨b, o + k * 2, none⟩ = some (.string s.op) := by rw [hB.cell (lt_of_cell h1)]; exact h1
        have c2 : wr.cell? ⟨b, o + k * 2 + 1, none⟩ = some (.int .i64 s.n) := by rw [hB.cell (lt_of_cell h2)]; exact h2
        obtain ⟨t, x, rfl⟩ := hC.iface
        have HC := Lib.hid hC
        have HB := Lib.hid hB
        have HS := Lib.hid hs
        have HF := Lib.hid hf
        clear hB hs h1 h2 hC hf
        go_wp2_with (go_at_call 19; refine (new_c s.op s.n t x _).mono ?_; rintro e w' ⟨rfl, rfl⟩)
        go_roundg (l.length - (k + 1))
        case measure => omega
        case rel =>
          have hn := chain_new HC.out (.cells #[.string s.op, .int .i64 s.n] 40) s
          refine ⟨k + 1, _, by go_num, by omega, rfl, ?_, by simpa using hn, (HB.out.alloc HB.out.size _).alloc (by have := HB.out.size; simp; omega) _⟩
          rw [List.map_cons, HF.out, rev_take HS.out]
          rfl
      · have hkk : k = l.length := by omega
        subst hkk
        rw [List.take_length] at hf
        have hfl := len_map hf
        obtain ⟨t, x, rfl⟩ := hC.iface
        have HC := Lib.hid hC
        have HB := Lib.hid hB
        clear hB hC hf
        go_wp2_with fail
        refine (alive_c _ (HV.out.below HB.out)).mono ?_
        rintro e w3 ⟨rfl, hB⟩
        have HC3 := Lib.hid (HC.out.below hB)
        have HB3 := Lib.hid (HB.out.trans (hB.mono HB.out.size))
        clear hB
        go_wp2_with fail
        refine (code_other fs _ _ HC3.out (by omega)).mono ?_
        rintro e w4 ⟨rfl, hB⟩
        have HC4 := Lib.hid (HC3.out.below hB)
        have HB4 := Lib.hid (HB3.out.trans (hB.mono HB3.out.size))
        clear hB
        go_wp2_with fail
        refine (is_none fs _ code _ _ (.inr rfl) HC4.out (by omega)).mono ?_
        rintro e w5 ⟨rfl, hB⟩
        have HC5 := Lib.hid (HC4.out.below hB)
        have HB5 := Lib.hid (HB4.out.trans (hB.mono HB4.out.size))
        clear hB
        go_wp2_with fail
        refine (ops_c fs _ _ _ HC5.out (.inr (.inr rfl)) (by omega)).mono ?_
        rintro e w6 ⟨g, rfl, _, hB⟩
        have HB6 := Lib.hid (HB5.out.trans (hB.mono HB5.out.size))
        clear hB
        rw [hfl]
        go_wp2
        go_ret
        exact ⟨rfl, HB6.out⟩
end Go.Proofs.YtnmjcfpmljahcaaDoor
