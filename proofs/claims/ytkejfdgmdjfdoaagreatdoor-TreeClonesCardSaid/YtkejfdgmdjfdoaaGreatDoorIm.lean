import Derived.Test.YtkejfdgmdjfdoaaGreatDoorIk
namespace Go.Proofs.YtkejfdgmdjfdoaaGreatDoor
set_option linter.unusedSimpArgs false
set_option linter.unusedVariables false
set_option maxHeartbeats 16000000
set_option maxRecDepth 100000
open Go.RowKit
theorem RI.ctlp {M : World → Int → Tv → Prop} {Tr : World → Nat → Nat → Int → Tv → Prop} (nd : NdV M) (tv : TrV M Tr) {w X : World} {p b : Nat} {n : Int} {l : List Ent} {k c : Nat} {A : Option Addr} {es : List En} (h : RI M Tr w p b n l k c A es X) : Ctl X p := by
 obtain ⟨⟨T, h1, _⟩, _⟩ := h.ts
 exact tv.ctl h1
theorem RI.other {M : World → Int → Tv → Prop} {Tr : World → Nat → Nat → Int → Tv → Prop} (nd : NdV M) (tv : TrV M Tr) {w X : World} {p b : Nat} {n : Int} {l : List Ent} {k c : Nat} {A : Option Addr} {es : List En} {X' : World} {q d : Nat} (h : RI M Tr w p b n l k c A es X) (hpq : p ≠ q) (hq : Ctl X q) (hqw : w.heap.size ≤ q) (hk : Keep (fun i => i = b ∨ i = q) X X') (hs : ∃ c', c' ≤ d ∧ Hs X' b n c') : RI M Tr w p b n l k d A es X' := by
 obtain ⟨⟨T, h1, h2, h3⟩, c', hc', h4⟩ := h.ts
 have hc : ∀ i, (i = b ∨ i = q) → Ctl X i := fun i hi => by
  rcases hi with e | e
  ·rw [e]; exact h4.ctl
  ·rw [e]; exact hq
 exact ⟨h.ea.ctl hk hc, h.map, h.hvl, h.len, h.asc, ⟨⟨T, tv.keep h1 hk (fun h5 => by rcases h5 with e | e; exact tv.ne h1 h4 e; exact hpq e), tv.ms h2 hk hc, h3⟩, hs⟩, h.bel.trans (hk.below h.bel.size fun i hi => by rcases hi with e | e <;> (rw [e]; first | exact h.new.2 | exact hqw)), h.new⟩
theorem RI.clone {M : World → Int → Tv → Prop} {Tr : World → Nat → Nat → Int → Tv → Prop} (nd : NdV M) (tv : TrV M Tr) {w X : World} {p b : Nat} {n : Int} {l : List Ent} {k c : Nat} {A : Option Addr} {es : List En} (h : RI M Tr w p b n l k c A es X) : Calls Tryz.prog 18 #[ptr p] X fun e w' => ∃ q, e = .returned (.pointer (some ⟨q, 0, none⟩)) ∧ RI M Tr w q b n l k c A es w' ∧ RI M Tr w p b n l k c A es w' ∧ p ≠ q := by
 obtain ⟨⟨T, h1, h2, h3⟩, c', hc', h4⟩ := h.ts
 refine (tv.clone X p b n T h1).mono ?_
 rintro e w' ⟨q, rfl, hq, hqs, hB⟩
 have h' := h.below nd tv hB
 have hlt := tv.lt h1
 have hsz := h.bel.size
 exact ⟨q, rfl, ⟨h'.ea, h'.map, h'.hvl, h'.len, h'.asc, ⟨⟨T, hq, nd.below h2 hB, h3⟩, h'.ts.2⟩, h'.bel, by omega, h.new.2⟩, h', by omega⟩
def runF (l : List Ent) (os : List On) : List Ent := os.foldl doO l
theorem runF_take {l : List Ent} {os : List On} {m : Nat} {x : On} (h : os[m]? = some x) : runF l (os.take (m + 1)) = doO (runF l (os.take m)) x := by
 obtain ⟨hi, rfl⟩ := List.getElem?_eq_some_iff.1 h
 unfold runF
 rw [List.take_succ_eq_append_getElem hi, List.foldl_append]
 rfl
theorem clones13_out {M : World → Int → Tv → Prop} {Tr : World → Nat → Nat → Int → Tv → Prop} (nd : NdV M) (tv : TrV M Tr) (n : Int) (A : Option Addr) (c : Nat) (os : List On) (B : Option Addr) (cB : Nat) (ms : List On) (w : World) (hV : Vars w) (hE : Ft.ErrVar w) (hn : n < 0 ∨ 256 < n) : Calls Tryz.prog 5 #[.int .i64 n, .slice A os.length c, .slice B ms.length cB] w (Aye w) := by
 have HV := Lib.hid hV
 have HE := Lib.hid hE
 have HNW := Lib.hid (tv.new_no w n hn)
 have HAL : Hid (∀ y, Below w.heap.size w y → Calls Tryz.prog 11 #[] y fun e w' => e = .returned (.bool true) ∧ Below y.heap.size y w') := fun y hy => alive13_c nd tv y (HV.out.below hy) (HE.out.below hy)
 have HRG : Hid (decide (0 ≤ n ∧ n ≤ 256) = false) := decide_eq_false (by omega)
 clear hV hE hn
 go_enter Tryz.func5, Tryz.ntmps5
 go_wp2_with fail
 refine HNW.out.mono ?_
 rintro _ w1 ⟨rfl, hB1⟩
 have HB1 := Lib.hid hB1
 have HRT := Lib.hid (right5_c n w1)
 rw [HRG.out] at HRT
 clear hB1 HNW
 go_wp2_with fail
 refine HRT.out.mono ?_
 rintro _ _ ⟨rfl, rfl⟩
 go_wp2_with fail
 refine (HAL.out w1 HB1.out).mono ?_
 rintro _ wz ⟨rfl, hBx⟩
 have HBx := Lib.hid ((HB1.out).trans (hBx.mono (HB1.out).size))
 clear hBx
 go_wp2_with fail
 go_ret
 exact ⟨rfl, HBx.out⟩
theorem clones13_in {M : World → Int → Tv → Prop} {Tr : World → Nat → Nat → Int → Tv → Prop} (nd : NdV M) (tv : TrV M Tr) (n : Int) (A : Option Addr) (c : Nat) (os : List On) (B : Option Addr) (cB : Nat) (ms : List On) (w : World) (hA : OA w A os) (hB : OA w B ms) (hV : Vars w) (hE : Ft.ErrVar w) (h0 : 0 ≤ n) (h1 : n ≤ 256) : Calls Tryz.prog 5 #[.int .i64 n, .slice A os.length c, .slice B ms.length cB] w (Aye w) := by
 have HOA := Lib.hid hA
 have HMA := Lib.hid hB
 have HV := Lib.hid hV
 have HE := Lib.hid hE
 have HNW := Lib.hid (tv.new_yes w n h0 h1)
 have HAL : Hid (∀ y, Below w.heap.size w y → Calls Tryz.prog 11 #[] y fun e w' => e = .returned (.bool true) ∧ Below y.heap.size y w') := fun y hy => alive13_c nd tv y (HV.out.below hy) (HE.out.below hy)
 have HRG : Hid (decide (0 ≤ n ∧ n ≤ 256) = true) := decide_eq_true ⟨h0, h1⟩
 unfold ptr at HNW
 clear hA hB hV hE h0 h1
 go_enter Tryz.func5, Tryz.ntmps5
 go_wp2_with fail
 refine HNW.out.mono ?_
 rintro _ w1 ⟨p, b, rfl, hT, hH, hpw, hbw, hB1⟩
 have HI1 : Hid (RI M Tr w p b n [] 0 0 none [] w1) := RI.start hT hH (nd.nil _ _) hB1 ⟨hpw, hbw⟩
 have HRT := Lib.hid (right5_c n w1)
 rw [HRG.out] at HRT
 have HFO := Lib.hid (fewO_c A c os w1 (HOA.out.below hB1))
 clear hT hH hpw hbw hB1 HNW
 go_wp2_with fail
 refine HRT.out.mono ?_
 rintro _ _ ⟨rfl, rfl⟩
 cases hf : fewO os with
 | false =>
  rw [fewI_no hf] at HFO
  clear hf
  go_wp2_with fail
  refine HFO.out.mono ?_
  rintro _ w2 ⟨rfl, hB2⟩
  have HB2 := Lib.hid (HI1.out.bel.trans (hB2.mono HI1.out.bel.size))
  clear hB2 HFO HRT
  go_wp2_with fail
  refine (HAL.out w2 HB2.out).mono ?_
  rintro _ wz ⟨rfl, hBx⟩
  have HBx := Lib.hid ((HB2.out).trans (hBx.mono (HB2.out).size))
  clear hBx
  go_wp2_with fail
  go_ret
  exact ⟨rfl, HBx.out⟩
 | true =>
  rw [fewI_yes hf] at HFO
  have HF := Lib.hid hf
  have HOL := Lib.hid (fewO_len hf)
  clear hf
  go_wp2_with fail
  refine HFO.out.mono ?_
  rintro _ w2 ⟨rfl, hB2⟩
  have HI2 := Lib.hid (HI1.out.below nd tv hB2)
  clear hB2 HFO HRT
  have hol9 : os.length ≤ 12 := HOL.out
  have HFU := Lib.hid (fewO_c B cB ms w2 (HMA.out.below HI2.out.bel))
  cases hg : fewO ms with
  | false =>
   rw [fewI_no hg] at HFU
   clear hg
   go_wp2_with fail
   refine HFU.out.mono ?_
   rintro _ w3 ⟨rfl, hB3⟩
   have HB3 := Lib.hid (HI2.out.bel.trans (hB3.mono HI2.out.bel.size))
   clear hB3 HFU
   go_wp2_with fail
   refine (HAL.out w3 HB3.out).mono ?_
   rintro _ wz ⟨rfl, hBx⟩
   have HBx := Lib.hid ((HB3.out).trans (hBx.mono (HB3.out).size))
   clear hBx
   go_wp2_with fail
   go_ret
   exact ⟨rfl, HBx.out⟩
  | true =>
   rw [fewI_yes hg] at HFU
   have HMF := Lib.hid hg
   have HML := Lib.hid (fewO_len hg)
   have hml9 : ms.length ≤ 12 := HML.out
   clear hg
   go_wp2_with fail
   refine HFU.out.mono ?_
   rintro _ w3 ⟨rfl, hB3⟩
   have HI3 := Lib.hid (HI2.out.below nd tv hB3)
   clear hB3 HFU HI2
   go_wp2_with fail
   go_loopg [9, 45] os.length (fun gg mv iv wr => ∃ (m : Nat) (A' : Option Addr) (cA : Nat) (es : List En), mv = .slice A' es.length cA ∧ iv = .int .i64 (m : Int) ∧ m ≤ os.length ∧ os.length - m = gg ∧ Hid (RI M Tr w p b n (runO (os.take m)) (20 * m) (90010 * m) A' es wr))
   case atStart => exact ⟨0, none, 0, [], rfl, rfl, by omega, by omega, HI3.out⟩
   case round =>
    obtain ⟨m, A', cA, es, rfl, rfl, hm, rfl, HI⟩ := hrel
    by_cases hlt : m < os.length
    ·have hd : decide (m < os.length) = true := decide_eq_true hlt
     obtain ⟨x, hx⟩ : ∃ x, os[m]? = some x := ⟨_, List.getElem?_eq_getElem hlt⟩
     obtain ⟨hok, g, o, rfl, hr⟩ := HOA.out m x hx
     have hr2 := range_below hr HI.out.bel
     have c0 := range_on0 hr2
     have c1 := range_on1 hr2
     have c2 := range_on2 hr2
     have c3 := range_on3 hr2
     have HX := Lib.hid hx
     have p0 : (0 : Int) ≤ (m : Int) := by omega
     have p1 : (m : Int) < (os.length : Int) := by omega
     obtain ⟨Y, hY⟩ : ∃ Y, Y = wr.alloc (.cells #[.int .i64 x.kind, .slice x.A x.k.length x.c, .slice x.B x.v.length x.e, .slice x.U x.us.length x.cu] 34) := ⟨_, rfl⟩
     have hbY := below_one hY
     have HIY := Lib.hid (HI.out.below nd tv hbY)
     have HDO := Lib.hid (HIY.out.do nd tv cA x HV.out HE.out (by have := HOL.out; omega) (by have := HOL.out; omega) ((hok.below HI.out.bel).below hbY) (fewOn_all (fewO_at HF.out (List.mem_of_getElem? hx))))
     have HYY := Lib.hid hY
     unfold ptr at HDO
     clear hx hok hr hr2 hY hbY
     go_wp2_with fail
     rw [← HYY.out]
     refine HDO.out.mono ?_
     rintro _ w4 ⟨A4, c4, es4, rfl, hI4, _⟩
     have HTK := Lib.hid (runO_take HX.out)
     have HI5 : Hid (RI M Tr w p b n (runO (os.take (m + 1))) (20 * (m + 1)) (90010 * (m + 1)) A4 es4 w4) := by
      rw [show 20 * (m + 1) = 20 * m + 20 by omega, show 90010 * (m + 1) = 90010 * m + 90010 by omega, HTK.out]
      exact hI4.more (by omega)
     clear hI4 HDO c0 c1 c2 c3
     go_wp2_with fail
     go_roundg (os.length - (m + 1))
     case measure => omega
     case rel => exact ⟨m + 1, A4, c4, es4, rfl, by go_num, by omega, rfl, HI5⟩
    ·obtain rfl : m = os.length := by omega
     have hd : decide (os.length < os.length) = false := decide_eq_false (by omega)
     have HI9 : Hid (RI M Tr w p b n (runO os) (20 * os.length) (90010 * os.length) A' es wr) := by
      have := HI.out
      rwa [List.take_length] at this
     clear HI
     have HCL := Lib.hid (HI9.out.clone nd tv)
     unfold ptr at HCL
     go_wp2_with fail
     refine HCL.out.mono ?_
     rintro _ w4 ⟨q, rfl, hC4, hT4, hpq⟩
     have HPQ := Lib.hid hpq
     have HC4 := Lib.hid hC4
     have HT4 := Lib.hid hT4
     have HDC := Lib.hid (HC4.out.differs nd tv cA HV.out (by have := HOL.out; omega) (by have := HOL.out; omega))
     unfold ptr at HDC
     clear hC4 hT4 hpq HCL HI9
     go_wp2_with fail
     refine HDC.out.mono ?_
     rintro _ w5 ⟨rfl, hC5, hk5⟩
     have HT2 := Lib.hid (HT4.out.other nd tv HPQ.out (HC4.out.ctlp nd tv) HC4.out.new.1 (hk5.mono fun _ h => .inl h) hC5.ts.2)
     have HC2 := Lib.hid hC5
     clear hC5 hk5 HDC HC4 HT4
     go_wp2_with fail
     go_loopg [13, 71] ms.length (fun gg mv iv wr => ∃ (m : Nat) (A2 : Option Addr) (cA2 : Nat) (es2 : List En), mv = .slice A2 es2.length cA2 ∧ iv = .int .i64 (m : Int) ∧ m ≤ ms.length ∧ ms.length - m = gg ∧ Hid (RI M Tr w q b n (runF (runO os) (ms.take m)) (20 * os.length + 20 * m) (90010 * os.length + 10 + 90010 * m) A2 es2 wr) ∧ Hid (RI M Tr w p b n (runO os) (20 * os.length) (90010 * os.length + 10 + 90010 * m) A' es wr))
     case atStart => exact ⟨0, A', cA, es, rfl, rfl, by omega, by omega, HC2.out, HT2.out⟩
     case round =>
      obtain ⟨m, A2, cA2, es2, rfl, rfl, hm, rfl, HI, HT⟩ := hrel
      by_cases hlt : m < ms.length
      ·have hd : decide (m < ms.length) = true := decide_eq_true hlt
       obtain ⟨x, hx⟩ : ∃ x, ms[m]? = some x := ⟨_, List.getElem?_eq_getElem hlt⟩
       obtain ⟨hok, g, o, rfl, hr⟩ := HMA.out m x hx
       have hr2 := range_below hr HI.out.bel
       have c0 := range_on0 hr2
       have c1 := range_on1 hr2
       have c2 := range_on2 hr2
       have c3 := range_on3 hr2
       have HX := Lib.hid hx
       have p0 : (0 : Int) ≤ (m : Int) := by omega
       have p1 : (m : Int) < (ms.length : Int) := by omega
       obtain ⟨Y, hY⟩ : ∃ Y, Y = wr.alloc (.cells #[.int .i64 x.kind, .slice x.A x.k.length x.c, .slice x.B x.v.length x.e, .slice x.U x.us.length x.cu] 34) := ⟨_, rfl⟩
       have hbY := below_one hY
       have HIY := Lib.hid (HI.out.below nd tv hbY)
       have HDO := Lib.hid (HIY.out.do nd tv cA2 x HV.out HE.out (by have := HOL.out; omega) (by have := HOL.out; omega) ((hok.below HI.out.bel).below hbY) (fewOn_all (fewO_at HMF.out (List.mem_of_getElem? hx))))
       have HYY := Lib.hid hY
       unfold ptr at HDO
       clear hx hok hr hr2 hY hbY
       go_wp2_with fail
       rw [← HYY.out]
       refine HDO.out.mono ?_
       rintro _ w4 ⟨A4, c4, es4, rfl, hI4, hk4⟩
       have HTK := Lib.hid (runF_take (l := runO os) HX.out)
       have HI5 : Hid (RI M Tr w q b n (runF (runO os) (ms.take (m + 1))) (20 * os.length + 20 * (m + 1)) (90010 * os.length + 10 + 90010 * (m + 1)) A4 es4 w4) := by
        rw [show 20 * os.length + 20 * (m + 1) = 20 * os.length + 20 * m + 20 by omega, HTK.out]
        exact hI4.more (by omega)
       have HT5 : Hid (RI M Tr w p b n (runO os) (20 * os.length) (90010 * os.length + 10 + 90010 * (m + 1)) A' es w4) :=
        (HT.out.below nd tv (below_one HYY.out)).other nd tv HPQ.out (HIY.out.ctlp nd tv) HI.out.new.1 hk4 HI5.out.ts.2
       clear hI4 hk4 HDO c0 c1 c2 c3
       go_wp2_with fail
       go_roundg (ms.length - (m + 1))
       case measure => omega
       case rel => exact ⟨m + 1, A4, c4, es4, rfl, by go_num, by omega, rfl, HI5, HT5⟩
      ·obtain rfl : m = ms.length := by omega
       have hd : decide (ms.length < ms.length) = false := decide_eq_false (by omega)
       go_wp2_with fail
       refine (HAL.out wr HI.out.bel).mono ?_
       rintro _ w5 ⟨rfl, hB5⟩
       have HI5 := Lib.hid (HI.out.below nd tv hB5)
       have HT5 := Lib.hid (HT.out.below nd tv hB5)
       have HDT := Lib.hid (HT5.out.differs nd tv cA HV.out (by have := HOL.out; omega) (by have := HOL.out; have := HML.out; omega))
       unfold ptr at HDT
       clear hB5 HI HT
       go_wp2_with fail
       refine HDT.out.mono ?_
       rintro _ w6 ⟨rfl, hT6, hk6⟩
       have HI6 := Lib.hid (HI5.out.other nd tv (Ne.symm HPQ.out) (HT5.out.ctlp nd tv) HT5.out.new.1 (hk6.mono fun _ h => .inl h) hT6.ts.2)
       have HDF := Lib.hid (HI6.out.differs nd tv cA2 HV.out (by have := HOL.out; have := HML.out; omega) (by have := HOL.out; have := HML.out; omega))
       unfold ptr at HDF
       clear hT6 hk6 HDT
       go_wp2_with fail
       refine HDF.out.mono ?_
       rintro _ w7 ⟨rfl, hI7, _⟩
       have HI7 := Lib.hid hI7
       clear hI7 HDF
       go_wp2_with fail
       go_ret
       exact ⟨rfl, HI7.out.bel⟩
theorem clones13_w {M : World → Int → Tv → Prop} {Tr : World → Nat → Nat → Int → Tv → Prop} (nd : NdV M) (tv : TrV M Tr) (n : Int) (A : Option Addr) (c : Nat) (os : List On) (B : Option Addr) (cB : Nat) (ms : List On) (w : World) (hA : OA w A os) (hB : OA w B ms) (hV : Vars w) (hE : Ft.ErrVar w) : Calls Tryz.prog 5 #[.int .i64 n, .slice A os.length c, .slice B ms.length cB] w (Aye w) := by
 by_cases h : 0 ≤ n ∧ n ≤ 256
 ·exact clones13_in nd tv n A c os B cB ms w hA hB hV hE h.1 h.2
 ·exact clones13_out nd tv n A c os B cB ms w hV hE (by omega)
end Go.Proofs.YtkejfdgmdjfdoaaGreatDoor
