/- The walks of FaultCodes, FaultIs and FaultOther. -/
import Derived.Test.YtnmjcfpmljahcaaDoorO
namespace Go.Proofs.YtnmjcfpmljahcaaDoor
open Go.RowKit

def Yes (w : World) (e : Ending) (w' : World) : Prop := e = .returned (.bool true) ∧ Below w.heap.size w w'
theorem len_map {fs : List Fr} {l : List St} (h : fs.map Fr.st = l.reverse) : fs.length = l.length := by
  have := congrArg List.length h; simpa using this
@[go_sem] theorem eq_code (a b : Int) (w : World) : (binOp .eql 31 (.int .i64 a) (.int .i64 b)).run Tryd.prog w = .ok (.bool (a == b)) w := by kernel_rfl

set_option maxHeartbeats 8000000 in
set_option maxRecDepth 100000 in
theorem codes_w (A : Option Addr) (c : Nat) (l : List St) (code : Int) (w : World) (hA : SA w A l) (hl : l.length ≤ 9223372036854775807) (hv : ErrVar w) :
    Calls Tryd.prog 4 #[.slice A l.length c, .int .i64 code] w (Yes w) := by
  have HA := Lib.hid hA
  have HV := Lib.hid hv
  clear hA hv
  cases hlong : longB l with
  | true =>
    have HL := Lib.hid hlong
    clear hlong
    go_enter Tryd.func4, Tryd.ntmps4
    go_wp2_with (go_at_call 9; refine (long_c A c l _ HA.out hl).mono ?_; rw [HL.out]; rintro e w1 ⟨rfl, hB⟩; have HB1 := Lib.hid hB; clear hB)
    go_wp2_with fail
    refine (alive_c _ (HV.out.below HB1.out)).mono ?_
    rintro e w2 ⟨rfl, hB⟩
    have HB2 := Lib.hid (HB1.out.trans (hB.mono HB1.out.size))
    clear hB
    go_wp2
    go_ret
    exact ⟨rfl, HB2.out⟩
  | false =>
    have hs := (short_facts hlong).1
    have HL := Lib.hid hlong
    clear hlong
    go_enter Tryd.func4, Tryd.ntmps4
    go_wp2_with (go_at_call 9; refine (long_c A c l _ HA.out hl).mono ?_; rw [HL.out]; rintro e w1 ⟨rfl, hB⟩; have HB1 := Lib.hid hB; clear hB)
    refine (alive_c _ (HV.out.below HB1.out)).mono ?_
    rintro e w2 ⟨rfl, hB⟩
    have HB2 := Lib.hid (HB1.out.trans (hB.mono HB1.out.size))
    clear hB
    go_wp2_with fail
    refine (build_c A c l code _ (HA.out.below HB2.out) (by omega)).mono ?_
    rintro e w3 ⟨v, fs, rfl, hf, hC, hB⟩
    have hfl := len_map hf
    have HC := Lib.hid hC
    have HB3 := Lib.hid (HB2.out.trans (hB.mono HB2.out.size))
    clear hB hC hf
    go_wp2_with fail
    refine (code_some fs code v _ HC.out (HV.out.below HB3.out) (by omega)).mono ?_
    rintro e w4 ⟨rfl, hB⟩
    have HB4 := Lib.hid (HB3.out.trans (hB.mono HB3.out.size))
    clear hB
    go_wp2
    go_ret
    exact ⟨ret_bool (by simp), HB4.out⟩
end Go.Proofs.YtnmjcfpmljahcaaDoor
