import Derived.Test.YtkejfdgmdjfdoaaGreatDoorIk
namespace Go.Proofs.YtkejfdgmdjfdoaaGreatDoor
set_option linter.unusedSimpArgs false
set_option linter.unusedVariables false
set_option maxHeartbeats 16000000
set_option maxRecDepth 100000
open Go.RowKit
theorem runs13_out {M : World → Int → Tv → Prop} {Tr : World → Nat → Nat → Int → Tv → Prop} (nd : NdV M) (tv : TrV M Tr) (n : Int) (A : Option Addr) (c : Nat) (os : List On) (w : World) (hV : Vars w) (hE : Ft.ErrVar w) (hn : n < 0 ∨ 256 < n) : Calls Tryz.prog 3 #[.int .i64 n, .slice A os.length c] w (Aye w) := by
 have HV := Lib.hid hV
 have HE := Lib.hid hE
 have HNW := Lib.hid (tv.new_no w n hn)
 have HAL : Hid (∀ y, Below w.heap.size w y → Calls Tryz.prog 11 #[] y fun e w' => e = .returned (.bool true) ∧ Below y.heap.size y w') := fun y hy => alive13_c nd tv y (HV.out.below hy) (HE.out.below hy)
 have HRG : Hid (decide (0 ≤ n ∧ n ≤ 256) = false) := decide_eq_false (by omega)
 clear hV hE hn
 go_enter Tryz.func3, Tryz.ntmps3
 go_wp2_with fail
 refine HNW.out.mono ?_
 rintro _ w1 ⟨rfl, hB1⟩
 have HB1 := Lib.hid hB1
 have HRT := Lib.hid (right5_c n w1)
 rw [HRG.out] at HRT
 clear hB1 HNW
 go_wp2_with fail
 refine HRT.out.mono ?_
 rintro _ _ ⟨rfl, rfl⟩
 go_wp2_with fail
 refine (HAL.out w1 HB1.out).mono ?_
 rintro _ w2 ⟨rfl, hB2⟩
 have HB2 := Lib.hid (HB1.out.trans (hB2.mono HB1.out.size))
 clear hB2 HRT
 go_wp2_with fail
 go_ret
 exact ⟨rfl, HB2.out⟩
theorem runs13_in {M : World → Int → Tv → Prop} {Tr : World → Nat → Nat → Int → Tv → Prop} (nd : NdV M) (tv : TrV M Tr) (n : Int) (A : Option Addr) (c : Nat) (os : List On) (w : World) (hA : OA w A os) (hV : Vars w) (hE : Ft.ErrVar w) (h0 : 0 ≤ n) (h1 : n ≤ 256) : Calls Tryz.prog 3 #[.int .i64 n, .slice A os.length c] w (Aye w) := by
 have HOA := Lib.hid hA
 have HV := Lib.hid hV
 have HE := Lib.hid hE
 have HNW := Lib.hid (tv.new_yes w n h0 h1)
 have HAL : Hid (∀ y, Below w.heap.size w y → Calls Tryz.prog 11 #[] y fun e w' => e = .returned (.bool true) ∧ Below y.heap.size y w') := fun y hy => alive13_c nd tv y (HV.out.below hy) (HE.out.below hy)
 have HRG : Hid (decide (0 ≤ n ∧ n ≤ 256) = true) := decide_eq_true ⟨h0, h1⟩
 unfold ptr at HNW
 clear hA hV hE h0 h1
 go_enter Tryz.func3, Tryz.ntmps3
 go_wp2_with fail
 refine HNW.out.mono ?_
 rintro _ w1 ⟨p, b, rfl, hT, hH, hpw, hbw, hB1⟩
 have HI1 : Hid (RI M Tr w p b n [] 0 0 none [] w1) := RI.start hT hH (nd.nil _ _) hB1 ⟨hpw, hbw⟩
 have HRT := Lib.hid (right5_c n w1)
 rw [HRG.out] at HRT
 have HFO := Lib.hid (fewO_c A c os w1 (HOA.out.below hB1))
 clear hT hH hpw hbw hB1 HNW
 go_wp2_with fail
 refine HRT.out.mono ?_
 rintro _ _ ⟨rfl, rfl⟩
 cases hf : fewO os with
 | false =>
  rw [fewI_no hf] at HFO
  clear hf
  go_wp2_with fail
  refine HFO.out.mono ?_
  rintro _ w2 ⟨rfl, hB2⟩
  have HB2 := Lib.hid (HI1.out.bel.trans (hB2.mono HI1.out.bel.size))
  clear hB2 HFO HRT
  go_wp2_with fail
  refine (HAL.out w2 HB2.out).mono ?_
  rintro _ w3 ⟨rfl, hB3⟩
  have HB3 := Lib.hid (HB2.out.trans (hB3.mono HB2.out.size))
  clear hB3
  go_wp2_with fail
  go_ret
  exact ⟨rfl, HB3.out⟩
 | true =>
  rw [fewI_yes hf] at HFO
  have HF := Lib.hid hf
  have HOL := Lib.hid (fewO_len hf)
  clear hf
  go_wp2_with fail
  refine HFO.out.mono ?_
  rintro _ w2 ⟨rfl, hB2⟩
  have HI2 := Lib.hid (HI1.out.below nd tv hB2)
  clear hB2 HFO HRT
  have hol9 : os.length ≤ 12 := HOL.out
  go_wp2_with fail
  go_loopg [7, 41] os.length (fun gg mv iv wr => ∃ (m : Nat) (A' : Option Addr) (cA : Nat) (es : List En), mv = .slice A' es.length cA ∧ iv = .int .i64 (m : Int) ∧ m ≤ os.length ∧ os.length - m = gg ∧ Hid (RI M Tr w p b n (runO (os.take m)) (20 * m) (90010 * m) A' es wr))
  case atStart => exact ⟨0, none, 0, [], rfl, rfl, by omega, by omega, HI2.out⟩
  case round =>
   obtain ⟨m, A', cA, es, rfl, rfl, hm, rfl, HI⟩ := hrel
   by_cases hlt : m < os.length
   ·have hd : decide (m < os.length) = true := decide_eq_true hlt
    obtain ⟨x, hx⟩ : ∃ x, os[m]? = some x := ⟨_, List.getElem?_eq_getElem hlt⟩
    obtain ⟨hok, g, o, rfl, hr⟩ := HOA.out m x hx
    have hr2 := range_below hr HI.out.bel
    have c0 := range_on0 hr2
    have c1 := range_on1 hr2
    have c2 := range_on2 hr2
    have c3 := range_on3 hr2
    have HX := Lib.hid hx
    have p0 : (0 : Int) ≤ (m : Int) := by omega
    have p1 : (m : Int) < (os.length : Int) := by omega
    obtain ⟨Y, hY⟩ : ∃ Y, Y = wr.alloc (.cells #[.int .i64 x.kind, .slice x.A x.k.length x.c, .slice x.B x.v.length x.e, .slice x.U x.us.length x.cu] 34) := ⟨_, rfl⟩
    have hbY := below_one hY
    have HIY := Lib.hid (HI.out.below nd tv hbY)
    have HDO := Lib.hid (HIY.out.do nd tv cA x HV.out HE.out (by have := HOL.out; omega) (by have := HOL.out; omega) ((hok.below HI.out.bel).below hbY) (fewOn_all (fewO_at HF.out (List.mem_of_getElem? hx))))
    have HYY := Lib.hid hY
    unfold ptr at HDO
    clear hx hok hr hr2 hY hbY
    go_wp2_with fail
    rw [← HYY.out]
    refine HDO.out.mono ?_
    rintro _ w4 ⟨A4, c4, es4, rfl, hI4, _⟩
    have HTK := Lib.hid (runO_take HX.out)
    have HI4 := Lib.hid hI4
    have HDF := Lib.hid (HI4.out.differs nd tv c4 HV.out (by have := HOL.out; omega) (by have := HOL.out; omega))
    unfold ptr at HDF
    clear hI4 HDO c0 c1 c2 c3
    go_wp2_with fail
    refine HDF.out.mono ?_
    rintro _ w5 ⟨rfl, hI5, _⟩
    have HI5 : Hid (RI M Tr w p b n (runO (os.take (m + 1))) (20 * (m + 1)) (90010 * (m + 1)) A4 es4 w5) := by
     rw [show 20 * (m + 1) = 20 * m + 20 by omega, show 90010 * (m + 1) = 90010 * m + 90000 + 10 by omega, HTK.out]
     exact hI5
    clear hI5 HDF
    go_wp2_with fail
    go_roundg (os.length - (m + 1))
    case measure => omega
    case rel => exact ⟨m + 1, A4, c4, es4, rfl, by go_num, by omega, rfl, HI5⟩
   ·obtain rfl : m = os.length := by omega
    have hd : decide (os.length < os.length) = false := decide_eq_false (by omega)
    go_wp2_with fail
    refine (HAL.out wr HI.out.bel).mono ?_
    rintro _ w5 ⟨rfl, hB5⟩
    have HB5 := Lib.hid (HI.out.bel.trans (hB5.mono HI.out.bel.size))
    clear hB5
    go_wp2_with fail
    go_ret
    exact ⟨rfl, HB5.out⟩
theorem runs13_w {M : World → Int → Tv → Prop} {Tr : World → Nat → Nat → Int → Tv → Prop} (nd : NdV M) (tv : TrV M Tr) (n : Int) (A : Option Addr) (c : Nat) (os : List On) (w : World) (hA : OA w A os) (hV : Vars w) (hE : Ft.ErrVar w) : Calls Tryz.prog 3 #[.int .i64 n, .slice A os.length c] w (Aye w) := by
 by_cases h : 0 ≤ n ∧ n ≤ 256
 ·exact runs13_in nd tv n A c os w hA hV hE h.1 h.2
 ·exact runs13_out nd tv n A c os w hV hE (by omega)
end Go.Proofs.YtkejfdgmdjfdoaaGreatDoor
