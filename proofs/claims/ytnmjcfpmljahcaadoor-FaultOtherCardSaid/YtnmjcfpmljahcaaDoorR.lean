/- The walk of FaultOps. -/
import Derived.Test.YtnmjcfpmljahcaaDoorQ
namespace Go.Proofs.YtnmjcfpmljahcaaDoor
open Go.RowKit

theorem fr_rev {fs : List Fr} {l : List St} (h : fs.map Fr.st = l.reverse) {k : Nat} {s : St} (hs : l[k]? = some s) : ∃ f, fs[l.length - 1 - k]? = some f ∧ f.op = s.op ∧ f.n = s.n := by
  have hlt := (List.getElem?_eq_some_iff.1 hs).1
  have h1 : (fs.map Fr.st)[l.length - 1 - k]? = some s := by
    rw [h, List.getElem?_reverse (by omega), show l.length - 1 - (l.length - 1 - k) = k by omega, hs]
  rw [List.getElem?_map] at h1
  obtain ⟨f, hf, he⟩ := Option.map_eq_some_iff.1 h1
  subst he
  exact ⟨f, hf, rfl, rfl⟩

set_option maxHeartbeats 8000000 in
set_option maxRecDepth 100000 in
theorem ops_long (A : Option Addr) (c : Nat) (l : List St) (code : Int) (w : World) (hA : SA w A l) (hl : l.length ≤ 9223372036854775807) (hv : ErrVar w) (hlong : longB l = true) :
    Calls Tryd.prog 6 #[.slice A l.length c, .int .i64 code] w (Yes w) := by
  have HA := Lib.hid hA
  have HV := Lib.hid hv
  have HL := Lib.hid hlong
  clear hA hv hlong
  go_enter Tryd.func6, Tryd.ntmps6
  go_wp2_with (go_at_call 9; refine (long_c A c l _ HA.out hl).mono ?_; rw [HL.out]; rintro e w1 ⟨rfl, hB⟩; have HB1 := Lib.hid hB; clear hB)
  go_wp2_with fail
  refine (alive_c _ (HV.out.below HB1.out)).mono ?_
  rintro e w2 ⟨rfl, hB⟩
  have HB2 := Lib.hid (HB1.out.trans (hB.mono HB1.out.size))
  clear hB
  go_wp2
  go_ret
  exact ⟨rfl, HB2.out⟩

set_option maxHeartbeats 8000000 in
set_option maxRecDepth 100000 in
theorem ops_none (A : Option Addr) (c : Nat) (code : Int) (w : World) (hA : SA w A []) (hv : ErrVar w) :
    Calls Tryd.prog 6 #[.slice A 0 c, .int .i64 code] w (Yes w) := by
  have HA := Lib.hid hA
  have HV := Lib.hid hv
  clear hA hv
  go_enter Tryd.func6, Tryd.ntmps6
  go_wp2_with (go_at_call 9; refine (long_c A c [] _ HA.out (by simp)).mono ?_; rw [show longB [] = false from rfl]; rintro e w1 ⟨rfl, hB⟩; have HB1 := Lib.hid hB; clear hB)
  refine (build_c A c [] code _ (HA.out.below HB1.out) (by simp)).mono ?_
  rintro e w2 ⟨v, fs, rfl, hf, hC, hB⟩
  obtain rfl : fs = [] := by simpa using hf
  obtain rfl : v = .iface 31 (.int .i64 code) := hC
  have HB2 := Lib.hid (HB1.out.trans (hB.mono HB1.out.size))
  clear hB hf
  go_wp2_with fail
  refine (ops_c [] (.iface 31 (.int .i64 code)) _ _ rfl (.inr (.inl ⟨code, rfl⟩)) (by simp)).mono ?_
  rintro e w3 ⟨g, rfl, _, hB⟩
  have HB3 := Lib.hid (HB2.out.trans (hB.mono HB2.out.size))
  clear hB
  go_wp2_with fail
  refine (first_none _ _ (.inr (.inl ⟨code, rfl⟩))).mono ?_
  rintro e w' ⟨rfl, rfl⟩
  go_wp2_with fail
  refine wp_loop_rounds 1 ?_
  rw [rounds_succ]
  go_wp2_with fail
  refine (alive_c _ (HV.out.below HB3.out)).mono ?_
  rintro e w4 ⟨rfl, hB⟩
  have HB4 := Lib.hid (HB3.out.trans (hB.mono HB3.out.size))
  clear hB
  go_wp2_with fail
  refine (ops_c [] .nilIface .nilIface _ rfl (.inl rfl) (by simp)).mono ?_
  rintro e w5 ⟨g2, rfl, _, hB⟩
  have HB5 := Lib.hid (HB4.out.trans (hB.mono HB4.out.size))
  clear hB
  go_wp2
  go_ret
  exact ⟨rfl, HB5.out⟩
end Go.Proofs.YtnmjcfpmljahcaaDoor
