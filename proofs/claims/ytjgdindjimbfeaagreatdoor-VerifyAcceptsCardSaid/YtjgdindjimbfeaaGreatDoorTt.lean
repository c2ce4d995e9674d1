import Derived.Test.YtjgdindjimbfeaaGreatDoorTM
import Derived.Test.YtjgdindjimbfeaaGreatDoorAD
namespace Go.Proofs.YtjgdindjimbfeaaGreatDoor
set_option linter.unusedSimpArgs false
set_option linter.unusedVariables false
set_option maxHeartbeats 8000000
set_option maxRecDepth 100000
open Go.RowKit
theorem accepts18_o1 (ve : VeV) (al : Alive18) (n : Int) (c : Cl) (A B : Option Addr) (ca cb : Nat) (root : List UInt8) (p : Pf) (D : Option Addr) (cd : Nat) (W : World) (hV : Vars W) (hE : Ft.ErrVar W) (hc : ClOk W c A ca B cb) (hr : root.length = 32) (hp : p.Ok) (hD : DS W D p.sib) (hd : p.sib.length ≤ cd) (h : n < 0 ∨ 256 < n) :
  Calls Tryz.prog 6 #[.int .i64 n, .agg (clC c A ca B cb), .agg (rpC root p (.slice D p.sib.length cd))] W (Aye W) := by
 obtain ⟨X, hX⟩ : ∃ X, X = (W.alloc (.cells (clC c A ca B cb) 24)).alloc (.cells (rpC root p (.slice D p.sib.length cd)) 55) := ⟨_, rfl⟩
 have hbX : Below W.heap.size W X := by rw [hX]; exact Bt.two_below _ _ _
 have hCX : ClAt X W.heap.size c A ca B cb := by rw [hX]; exact heap_alloc2_old W _ _
 have hRX : RpAt X (W.heap.size + 1) root p (.slice D p.sib.length cd) := by rw [hX]; exact heap_alloc2_new W _ _
 have lc0 := hCX.ld
 have HX := Lib.hid hX
 have HBX := Lib.hid hbX
 have HCX := Lib.hid hCX
 have HRX := Lib.hid hRX
 have HV := Lib.hid (hV.below hbX)
 have HE := Lib.hid (hE.below hbX)
 have HCO := Lib.hid (hc.below hbX)
 have HDD := Lib.hid (hD.below hbX)
 have HRL := Lib.hid hr
 have HPO := Lib.hid hp
 have HCD := Lib.hid hd
 have HVE := Lib.hid ve
 have HAL := Lib.hid al
 have HR : Hid (∀ w, Calls Tryz.prog 9 #[.int .i64 n] w fun e w' => e = .returned (.bool false) ∧ w = w') := fun w => by
  have := right5_c n w
  rwa [decide_eq_false (by omega)] at this
 clear h
 clear hX hbX hCX hRX hV hE hc hr hp hD hd ve al
 go_enter Tryz.func6, Tryz.ntmps6
 go_wp2_with fail
 rw [← HX.out]
 refine (HR.out X).mono ?_
 rintro _ wr ⟨rfl, hwr⟩
 rw [← hwr]
 clear hwr
 go_wp2_with fail
 refine (HAL.out X (HV.out.below (Below.refl X.heap.size X)) (HE.out.below (Below.refl X.heap.size X))).mono ?_
 rintro _ wa ⟨rfl, hba⟩
 have HBA := Lib.hid (HBX.out.trans ((((Below.refl X.heap.size X)).trans (hba.mono ((Below.refl X.heap.size X)).size)).mono HBX.out.size))
 clear hba
 go_wp2
 go_ret
 exact ⟨rfl, HBA.out⟩
theorem accepts18_o2 (ve : VeV) (al : Alive18) (n : Int) (c : Cl) (A B : Option Addr) (ca cb : Nat) (root : List UInt8) (p : Pf) (D : Option Addr) (cd : Nat) (W : World) (hV : Vars W) (hE : Ft.ErrVar W) (hc : ClOk W c A ca B cb) (hr : root.length = 32) (hp : p.Ok) (hD : DS W D p.sib) (hd : p.sib.length ≤ cd) (h : ¬ (n < 0 ∨ 256 < n)) (hs : 100 < c.k.length ∨ 70000 < c.v.length) :
  Calls Tryz.prog 6 #[.int .i64 n, .agg (clC c A ca B cb), .agg (rpC root p (.slice D p.sib.length cd))] W (Aye W) := by
 obtain ⟨X, hX⟩ : ∃ X, X = (W.alloc (.cells (clC c A ca B cb) 24)).alloc (.cells (rpC root p (.slice D p.sib.length cd)) 55) := ⟨_, rfl⟩
 have hbX : Below W.heap.size W X := by rw [hX]; exact Bt.two_below _ _ _
 have hCX : ClAt X W.heap.size c A ca B cb := by rw [hX]; exact heap_alloc2_old W _ _
 have hRX : RpAt X (W.heap.size + 1) root p (.slice D p.sib.length cd) := by rw [hX]; exact heap_alloc2_new W _ _
 have lc0 := hCX.ld
 have HX := Lib.hid hX
 have HBX := Lib.hid hbX
 have HCX := Lib.hid hCX
 have HRX := Lib.hid hRX
 have HV := Lib.hid (hV.below hbX)
 have HE := Lib.hid (hE.below hbX)
 have HCO := Lib.hid (hc.below hbX)
 have HDD := Lib.hid (hD.below hbX)
 have HRL := Lib.hid hr
 have HPO := Lib.hid hp
 have HCD := Lib.hid hd
 have HVE := Lib.hid ve
 have HAL := Lib.hid al
 have HR : Hid (∀ w, Calls Tryz.prog 9 #[.int .i64 n] w fun e w' => e = .returned (.bool true) ∧ w = w') := fun w => by
  have := right5_c n w
  rwa [decide_eq_true (by omega)] at this
 have HSV : Hid ((if 100 < c.k.length ∨ 70000 < c.v.length then (0 : Int) else 1) = 0) := if_pos hs
 clear h hs
 clear hX hbX hCX hRX hV hE hc hr hp hD hd ve al
 go_enter Tryz.func6, Tryz.ntmps6
 go_wp2_with fail
 rw [← HX.out]
 refine (HR.out X).mono ?_
 rintro _ wr ⟨rfl, hwr⟩
 rw [← hwr]
 clear hwr
 have HSH := short18_c c A B ca cb X
 rw [HSV.out] at HSH
 have HSH := Lib.hid HSH
 go_wp2_with fail
 refine HSH.out.mono ?_
 rintro _ w1 ⟨rfl, hb1⟩
 have HB1 := Lib.hid hb1
 have HC1 : Hid (ClAt w1 W.heap.size c A ca B cb) := HCX.out.below hb1 (lt_of_heap HCX.out)
 have HR1 : Hid (RpAt w1 (W.heap.size + 1) root p (.slice D p.sib.length cd)) := HRX.out.below hb1 (lt_of_heap HRX.out)
 have cs1 := HR1.out.sib HRL.out HPO.out
 clear hb1 HSH lc0
 go_wp2_with fail
 refine (HAL.out w1 (HV.out.below HB1.out) (HE.out.below HB1.out)).mono ?_
 rintro _ wa ⟨rfl, hba⟩
 have HBA := Lib.hid (HBX.out.trans (((HB1.out).trans (hba.mono (HB1.out).size)).mono HBX.out.size))
 clear hba
 go_wp2
 go_ret
 exact ⟨rfl, HBA.out⟩
theorem accepts18_o3 (ve : VeV) (al : Alive18) (n : Int) (c : Cl) (A B : Option Addr) (ca cb : Nat) (root : List UInt8) (p : Pf) (D : Option Addr) (cd : Nat) (W : World) (hV : Vars W) (hE : Ft.ErrVar W) (hc : ClOk W c A ca B cb) (hr : root.length = 32) (hp : p.Ok) (hD : DS W D p.sib) (hd : p.sib.length ≤ cd) (h : ¬ (n < 0 ∨ 256 < n)) (hs : ¬ (100 < c.k.length ∨ 70000 < c.v.length)) (hl : 300 < p.sib.length) :
  Calls Tryz.prog 6 #[.int .i64 n, .agg (clC c A ca B cb), .agg (rpC root p (.slice D p.sib.length cd))] W (Aye W) := by
 obtain ⟨X, hX⟩ : ∃ X, X = (W.alloc (.cells (clC c A ca B cb) 24)).alloc (.cells (rpC root p (.slice D p.sib.length cd)) 55) := ⟨_, rfl⟩
 have hbX : Below W.heap.size W X := by rw [hX]; exact Bt.two_below _ _ _
 have hCX : ClAt X W.heap.size c A ca B cb := by rw [hX]; exact heap_alloc2_old W _ _
 have hRX : RpAt X (W.heap.size + 1) root p (.slice D p.sib.length cd) := by rw [hX]; exact heap_alloc2_new W _ _
 have lc0 := hCX.ld
 have HX := Lib.hid hX
 have HBX := Lib.hid hbX
 have HCX := Lib.hid hCX
 have HRX := Lib.hid hRX
 have HV := Lib.hid (hV.below hbX)
 have HE := Lib.hid (hE.below hbX)
 have HCO := Lib.hid (hc.below hbX)
 have HDD := Lib.hid (hD.below hbX)
 have HRL := Lib.hid hr
 have HPO := Lib.hid hp
 have HCD := Lib.hid hd
 have HVE := Lib.hid ve
 have HAL := Lib.hid al
 have HR : Hid (∀ w, Calls Tryz.prog 9 #[.int .i64 n] w fun e w' => e = .returned (.bool true) ∧ w = w') := fun w => by
  have := right5_c n w
  rwa [decide_eq_true (by omega)] at this
 have HSV : Hid ((if 100 < c.k.length ∨ 70000 < c.v.length then (0 : Int) else 1) = 1) := if_neg hs
 have d1 : decide ((300 : Int) < (p.sib.length : Int)) = true := decide_eq_true (by omega)
 clear h hs hl
 clear hX hbX hCX hRX hV hE hc hr hp hD hd ve al
 go_enter Tryz.func6, Tryz.ntmps6
 go_wp2_with fail
 rw [← HX.out]
 refine (HR.out X).mono ?_
 rintro _ wr ⟨rfl, hwr⟩
 rw [← hwr]
 clear hwr
 have HSH := short18_c c A B ca cb X
 rw [HSV.out] at HSH
 have HSH := Lib.hid HSH
 go_wp2_with fail
 refine HSH.out.mono ?_
 rintro _ w1 ⟨rfl, hb1⟩
 have HB1 := Lib.hid hb1
 have HC1 : Hid (ClAt w1 W.heap.size c A ca B cb) := HCX.out.below hb1 (lt_of_heap HCX.out)
 have HR1 : Hid (RpAt w1 (W.heap.size + 1) root p (.slice D p.sib.length cd)) := HRX.out.below hb1 (lt_of_heap HRX.out)
 have cs1 := HR1.out.sib HRL.out HPO.out
 clear hb1 HSH lc0
 go_wp2_with fail
 refine (HAL.out w1 (HV.out.below HB1.out) (HE.out.below HB1.out)).mono ?_
 rintro _ wa ⟨rfl, hba⟩
 have HBA := Lib.hid (HBX.out.trans (((HB1.out).trans (hba.mono (HB1.out).size)).mono HBX.out.size))
 clear hba
 go_wp2
 go_ret
 exact ⟨rfl, HBA.out⟩
theorem accepts18_in (ve : VeV) (al : Alive18) (n : Int) (c : Cl) (A B : Option Addr) (ca cb : Nat) (root : List UInt8) (p : Pf) (D : Option Addr) (cd : Nat) (W : World) (hV : Vars W) (hE : Ft.ErrVar W) (hc : ClOk W c A ca B cb) (hr : root.length = 32) (hp : p.Ok) (hD : DS W D p.sib) (hd : p.sib.length ≤ cd) (h : ¬ (n < 0 ∨ 256 < n)) (hs : ¬ (100 < c.k.length ∨ 70000 < c.v.length)) (hl : ¬ 300 < p.sib.length) :
  Calls Tryz.prog 6 #[.int .i64 n, .agg (clC c A ca B cb), .agg (rpC root p (.slice D p.sib.length cd))] W (Aye W) := by
 obtain ⟨X, hX⟩ : ∃ X, X = (W.alloc (.cells (clC c A ca B cb) 24)).alloc (.cells (rpC root p (.slice D p.sib.length cd)) 55) := ⟨_, rfl⟩
 have hbX : Below W.heap.size W X := by rw [hX]; exact Bt.two_below _ _ _
 have hCX : ClAt X W.heap.size c A ca B cb := by rw [hX]; exact heap_alloc2_old W _ _
 have hRX : RpAt X (W.heap.size + 1) root p (.slice D p.sib.length cd) := by rw [hX]; exact heap_alloc2_new W _ _
 have lc0 := hCX.ld
 have HX := Lib.hid hX
 have HBX := Lib.hid hbX
 have HCX := Lib.hid hCX
 have HRX := Lib.hid hRX
 have HV := Lib.hid (hV.below hbX)
 have HE := Lib.hid (hE.below hbX)
 have HCO := Lib.hid (hc.below hbX)
 have HDD := Lib.hid (hD.below hbX)
 have HRL := Lib.hid hr
 have HPO := Lib.hid hp
 have HCD := Lib.hid hd
 have HVE := Lib.hid ve
 have HAL := Lib.hid al
 have HR : Hid (∀ w, Calls Tryz.prog 9 #[.int .i64 n] w fun e w' => e = .returned (.bool true) ∧ w = w') := fun w => by
  have := right5_c n w
  rwa [decide_eq_true (by omega)] at this
 have HSV : Hid ((if 100 < c.k.length ∨ 70000 < c.v.length then (0 : Int) else 1) = 1) := if_neg hs
 have d1 : decide ((300 : Int) < (p.sib.length : Int)) = false := decide_eq_false (by omega)
 have HM : Hid (p.sib.length ≤ 1000000) := by show _ ≤ _; omega
 clear hs hl
 clear hX hbX hCX hRX hV hE hc hr hp hD hd ve al
 go_enter Tryz.func6, Tryz.ntmps6
 go_wp2_with fail
 rw [← HX.out]
 refine (HR.out X).mono ?_
 rintro _ wr ⟨rfl, hwr⟩
 rw [← hwr]
 clear hwr
 have HSH := short18_c c A B ca cb X
 rw [HSV.out] at HSH
 have HSH := Lib.hid HSH
 go_wp2_with fail
 refine HSH.out.mono ?_
 rintro _ w1 ⟨rfl, hb1⟩
 have HB1 := Lib.hid hb1
 have HC1 : Hid (ClAt w1 W.heap.size c A ca B cb) := HCX.out.below hb1 (lt_of_heap HCX.out)
 have HR1 : Hid (RpAt w1 (W.heap.size + 1) root p (.slice D p.sib.length cd)) := HRX.out.below hb1 (lt_of_heap HRX.out)
 have cs1 := HR1.out.sib HRL.out HPO.out
 clear hb1 HSH lc0
 have HHS := Lib.hid (hash_in n w1 (by omega) (by omega))
 go_wp2_with fail
 refine HHS.out.mono ?_
 rintro _ w2 ⟨b, rfl, hb, hH, hB⟩
 have HN2 := Lib.hid (show X.heap.size ≤ b from Nat.le_trans HB1.out.size hb)
 have HH2 := Lib.hid hH
 have HB2 := Lib.hid (keeps HB1.out hB)
 have HC2 : Hid (ClAt w2 W.heap.size c A ca B cb) := HC1.out.below hB (lt_of_heap HC1.out)
 have HR2 : Hid (RpAt w2 (W.heap.size + 1) root p (.slice D p.sib.length cd)) := HR1.out.below hB (lt_of_heap HR1.out)
 have lc2 := HC2.out.ld
 have HCL := rclaim18_c c A B ca cb w2
 obtain ⟨z, hz⟩ : ∃ z, z = stC c := ⟨_, rfl⟩
 rw [← hz] at HCL
 have HCL := Lib.hid HCL
 have HZ := Lib.hid hz
 clear hb hH hB HHS hz cs1
 go_wp2_with fail
 refine HCL.out.mono ?_
 rintro _ w3 ⟨rfl, hb3⟩
 have HB3 := Lib.hid (keeps HB2.out hb3)
 have HH3 := Lib.hid (HH2.out.keep (Keep.of_below (L := fun _ => False) hb3) id)
 have HC3 : Hid (ClAt w3 W.heap.size c A ca B cb) := HC2.out.below hb3 (lt_of_heap HC2.out)
 have HR3 : Hid (RpAt w3 (W.heap.size + 1) root p (.slice D p.sib.length cd)) := HR2.out.below hb3 (lt_of_heap HR2.out)
 clear hb3 HCL lc2
 by_cases hz0 : z.2 = 0
 rotate_left 1
 ·have HAV : Hid (accV n root c p = false) := by show _ = _; unfold accV; rw [← HZ.out, beq_eq_false_iff_ne.2 hz0]; rfl
  have d3 : (z.2 == 0) = false := beq_eq_false_iff_ne.2 hz0
  have HZ0 := Lib.hid hz0
  clear hz0
  go_wp2_with fail
  refine (HAL.out w3 (HV.out.below HB3.out) (HE.out.below HB3.out)).mono ?_
  rintro _ wa ⟨rfl, hba⟩
  have HBa := Lib.hid (keeps HB3.out hba)
  have HHa := Lib.hid (HH3.out.keep (Keep.of_below (L := fun _ => False) hba) id)
  have hCa : ClAt wa W.heap.size c A ca B cb := HC3.out.below hba (lt_of_heap HC3.out)
  have hRa : RpAt wa (W.heap.size + 1) root p (.slice D p.sib.length cd) := HR3.out.below hba (lt_of_heap HR3.out)
  have lca := hCa.ld
  have lra := hRa.ldR HRL.out
  have lpa := hRa.ldP HRL.out HPO.out
  have HAC := HVE.out.accepts wa b n 0 root c A B ca cb p D cd HHa.out (by decide) (HV.out.below HBa.out) HRL.out (HCO.out.below HBa.out) HPO.out (HDD.out.below HBa.out) HCD.out HM.out
  rw [HAV.out] at HAC
  have HAC := Lib.hid HAC
  clear hba hCa hRa
  go_wp2_with fail
  refine HAC.out.mono ?_
  rintro _ we ⟨me, rfl, _, _, hKe⟩
  have HBA := Lib.hid (HBX.out.trans ((keep_new HBa.out HN2.out hKe).mono HBX.out.size))
  clear hKe HAC lca lra lpa
  go_wp2
  go_ret
  exact ⟨rfl, HBA.out⟩
 have d3 : (z.2 == 0) = true := by rw [hz0]; rfl
 have HCH := fun w => rcheck_c p HPO.out D cd w
 obtain ⟨q, hq⟩ : ∃ q, q = chkP p := ⟨_, rfl⟩
 rw [← hq] at HCH
 have HCH := Lib.hid (HCH w3)
 have HQ := Lib.hid hq
 have lp3 := HR3.out.ldP HRL.out HPO.out
 by_cases hq0 : q = 0
 rotate_left 1
 ·have HAV : Hid (accV n root c p = false) := by show _ = _; unfold accV; rw [← HQ.out, beq_eq_false_iff_ne.2 hq0, Bool.and_false]; rfl
  have d4 : (q == 0) = false := beq_eq_false_iff_ne.2 hq0
  have HQ0 := Lib.hid hq0
  have HZ0 := Lib.hid hz0
  clear hz0 hq0 hq
  go_wp2_with fail
  refine HCH.out.mono ?_
  rintro _ w4 ⟨rfl, hb4⟩
  have HB4 := Lib.hid (keeps HB3.out hb4)
  have HH4 := Lib.hid (HH3.out.keep (Keep.of_below (L := fun _ => False) hb4) id)
  have HC4 : Hid (ClAt w4 W.heap.size c A ca B cb) := HC3.out.below hb4 (lt_of_heap HC3.out)
  have HR4 : Hid (RpAt w4 (W.heap.size + 1) root p (.slice D p.sib.length cd)) := HR3.out.below hb4 (lt_of_heap HR3.out)
  clear hb4 HCH lp3
  go_wp2_with fail
  refine (HAL.out w4 (HV.out.below HB4.out) (HE.out.below HB4.out)).mono ?_
  rintro _ wa ⟨rfl, hba⟩
  have HBa := Lib.hid (keeps HB4.out hba)
  have HHa := Lib.hid (HH4.out.keep (Keep.of_below (L := fun _ => False) hba) id)
  have hCa : ClAt wa W.heap.size c A ca B cb := HC4.out.below hba (lt_of_heap HC4.out)
  have hRa : RpAt wa (W.heap.size + 1) root p (.slice D p.sib.length cd) := HR4.out.below hba (lt_of_heap HR4.out)
  have lca := hCa.ld
  have lra := hRa.ldR HRL.out
  have lpa := hRa.ldP HRL.out HPO.out
  have HAC := HVE.out.accepts wa b n 0 root c A B ca cb p D cd HHa.out (by decide) (HV.out.below HBa.out) HRL.out (HCO.out.below HBa.out) HPO.out (HDD.out.below HBa.out) HCD.out HM.out
  rw [HAV.out] at HAC
  have HAC := Lib.hid HAC
  clear hba hCa hRa
  go_wp2_with fail
  refine HAC.out.mono ?_
  rintro _ we ⟨me, rfl, _, _, hKe⟩
  have HBA := Lib.hid (HBX.out.trans ((keep_new HBa.out HN2.out hKe).mono HBX.out.size))
  clear hKe HAC lca lra lpa
  go_wp2
  go_ret
  exact ⟨rfl, HBA.out⟩
 have d4 : (q == 0) = true := by rw [hq0]; rfl
 have hok := stC_ok (c := c) (by rw [← HZ.out]; exact hz0)
 have HOK := Lib.hid hok
 have HQ1 : Hid (chkP p = 0) := by show _ = _; rw [← hq]; exact hq0
 obtain ⟨v, hv⟩ : ∃ v, v = lastV18 n root c p := ⟨_, rfl⟩
 obtain ⟨y, hy⟩ : ∃ y, y = (v.2 == 0) := ⟨_, rfl⟩
 have HAV : Hid (accV n root c p = y) := by show _ = _; unfold accV; rw [← HZ.out, ← HQ.out, d3, d4, hy, hv]; rfl
 have HVV := Lib.hid hv
 have d5 := hy.symm
 have HQ0 := Lib.hid hq0
 have HZ0 := Lib.hid hz0
 clear hz0 hq0 hq hok hv hy
 go_wp2_with fail
 refine HCH.out.mono ?_
 rintro _ w4 ⟨rfl, hb4⟩
 have HB4 := Lib.hid (keeps HB3.out hb4)
 have HH4 := Lib.hid (HH3.out.keep (Keep.of_below (L := fun _ => False) hb4) id)
 have HC4 : Hid (ClAt w4 W.heap.size c A ca B cb) := HC3.out.below hb4 (lt_of_heap HC3.out)
 have HR4 : Hid (RpAt w4 (W.heap.size + 1) root p (.slice D p.sib.length cd)) := HR3.out.below hb4 (lt_of_heap HR3.out)
 have lc4 := HC4.out.ld
 have lr4 := HR4.out.ldR HRL.out
 have lp4 := HR4.out.ldP HRL.out HPO.out
 have HLA := rlast18_c n root c A B ca cb p D cd w4 HRL.out (HCO.out.key.below HB4.out) (HCO.out.val.below HB4.out) HOK.out.1 HOK.out.2.1 HPO.out (HDD.out.below HB4.out) HQ1.out
 rw [← HVV.out] at HLA
 have HLA := Lib.hid HLA
 clear hb4 HCH lp3
 go_wp2_with fail
 refine HLA.out.mono ?_
 rintro _ w5 ⟨rfl, hb5⟩
 have HB5 := Lib.hid (keeps HB4.out hb5)
 have HH5 := Lib.hid (HH4.out.keep (Keep.of_below (L := fun _ => False) hb5) id)
 have HC5 : Hid (ClAt w5 W.heap.size c A ca B cb) := HC4.out.below hb5 (lt_of_heap HC4.out)
 have HR5 : Hid (RpAt w5 (W.heap.size + 1) root p (.slice D p.sib.length cd)) := HR4.out.below hb5 (lt_of_heap HR4.out)
 clear hb5 HLA lc4 lr4 lp4
 go_wp2_with fail
 refine (HAL.out w5 (HV.out.below HB5.out) (HE.out.below HB5.out)).mono ?_
 rintro _ wa ⟨rfl, hba⟩
 have HBa := Lib.hid (keeps HB5.out hba)
 have HHa := Lib.hid (HH5.out.keep (Keep.of_below (L := fun _ => False) hba) id)
 have hCa : ClAt wa W.heap.size c A ca B cb := HC5.out.below hba (lt_of_heap HC5.out)
 have hRa : RpAt wa (W.heap.size + 1) root p (.slice D p.sib.length cd) := HR5.out.below hba (lt_of_heap HR5.out)
 have lca := hCa.ld
 have lra := hRa.ldR HRL.out
 have lpa := hRa.ldP HRL.out HPO.out
 have HAC := HVE.out.accepts wa b n 0 root c A B ca cb p D cd HHa.out (by decide) (HV.out.below HBa.out) HRL.out (HCO.out.below HBa.out) HPO.out (HDD.out.below HBa.out) HCD.out HM.out
 rw [HAV.out] at HAC
 have HAC := Lib.hid HAC
 clear hba hCa hRa
 go_wp2_with fail
 refine HAC.out.mono ?_
 rintro _ we ⟨me, rfl, _, _, hKe⟩
 have HBA := Lib.hid (HBX.out.trans ((keep_new HBa.out HN2.out hKe).mono HBX.out.size))
 clear hKe HAC lca lra lpa
 go_wp2
 go_ret
 exact ⟨rfl, HBA.out⟩
theorem accepts18_w (ve : VeV) (al : Alive18) (n : Int) (c : Cl) (A B : Option Addr) (ca cb : Nat) (root : List UInt8) (p : Pf) (D : Option Addr) (cd : Nat) (W : World) (hV : Vars W) (hE : Ft.ErrVar W) (hc : ClOk W c A ca B cb) (hr : root.length = 32) (hp : p.Ok) (hD : DS W D p.sib) (hd : p.sib.length ≤ cd) :
  Calls Tryz.prog 6 #[.int .i64 n, .agg (clC c A ca B cb), .agg (rpC root p (.slice D p.sib.length cd))] W (Aye W) := by
 by_cases h : n < 0 ∨ 256 < n
 ·exact accepts18_o1 ve al n c A B ca cb root p D cd W hV hE hc hr hp hD hd h
 by_cases hs : 100 < c.k.length ∨ 70000 < c.v.length
 ·exact accepts18_o2 ve al n c A B ca cb root p D cd W hV hE hc hr hp hD hd h hs
 by_cases hl : 300 < p.sib.length
 ·exact accepts18_o3 ve al n c A B ca cb root p D cd W hV hE hc hr hp hD hd h hs hl
 exact accepts18_in ve al n c A B ca cb root p D cd W hV hE hc hr hp hD hd h hs hl
end Go.Proofs.YtjgdindjimbfeaaGreatDoor
