import Derived.Test.YtkejfdgmdjfdoaaGreatDoorIj
import Derived.Test.YtkejfdgmdjfdoaaGreatDoorG1
namespace Go.Proofs.YtkejfdgmdjfdoaaGreatDoor
set_option linter.unusedSimpArgs false
set_option linter.unusedVariables false
set_option maxHeartbeats 16000000
set_option maxRecDepth 100000
open Go.RowKit
theorem nil13_w {M : World → Int → Tv → Prop} {Tr : World → Nat → Nat → Int → Tv → Prop} (nd : NdV M) (tv : TrV M Tr) (tn : TrN) (A : Option Addr) (cA : Nat) (k : List UInt8) (B : Option Addr) (cB : Nat) (v : List UInt8) (w : World) (hV : Vars w) (hE : Ft.ErrVar w) : Calls Tryz.prog 8 #[.slice A k.length cA, .slice B v.length cB] w (Aye w) := by
 have HV := Lib.hid hV
 have HE := Lib.hid hE
 have HAL : Hid (∀ y, Below w.heap.size w y → Calls Tryz.prog 11 #[] y fun e w' => e = .returned (.bool true) ∧ Below y.heap.size y w') := fun y hy => alive13_c nd tv y (HV.out.below hy) (HE.out.below hy)
 have bz : ∀ w, bldA 46 w #[] = .ok (.value (.agg (bA z26))) w := fun w => by kernel_rfl
 have hq : ∀ x y w, eqA .eql 46 x y w (.agg (bA z26)) (.agg (bA z26)) = .ok (.value (.bool true)) w := fun x y w => by rw [eqDig z26 z26 rfl rfl, decide_eq_true rfl]
 clear hV hE
 go_enter Tryz.func8, Tryz.ntmps8
 go_wp2_with fail
 refine (tn.get w A cA k).mono ?_
 rintro _ w1 ⟨B1, c1, x1, rfl, hx, hb⟩
 have HB1 : Hid (Below w.heap.size w w1) := hb
 have HX1 := Lib.hid hx
 clear hx
 clear hb
 go_wp2_with fail
 refine (tn.delete w1 A cA k).mono ?_
 rintro _ w2 ⟨x2, rfl, hx, hb⟩
 have HB2 : Hid (Below w.heap.size w w2) := HB1.out.trans (hb.mono HB1.out.size)
 have HX2 := Lib.hid hx
 have HX1 := Lib.hid (HX1.out.below hb)
 clear hx
 clear hb
 go_wp2_with fail
 refine (HAL.out w2 HB2.out).mono ?_
 rintro _ w3 ⟨rfl, hb⟩
 have HB3 : Hid (Below w.heap.size w w3) := HB2.out.trans (hb.mono HB2.out.size)
 have HX1 := Lib.hid (HX1.out.below hb)
 have HX2 := Lib.hid (HX2.out.below hb)
 clear hb
 go_wp2_with fail
 refine (tn.put w3 A B cA cB k v).mono ?_
 rintro _ w4 ⟨x3, rfl, hx, hb⟩
 have HB4 : Hid (Below w.heap.size w w4) := HB3.out.trans (hb.mono HB3.out.size)
 have HX3 := Lib.hid hx
 have HX1 := Lib.hid (HX1.out.below hb)
 have HX2 := Lib.hid (HX2.out.below hb)
 clear hx
 clear hb
 go_wp2_with fail
 refine (wrong_c (opB putB) 0 1 x3 w4 HX3.out (by decide) (HE.out.below HB4.out)).mono ?_
 rintro _ w5 ⟨rfl, hb⟩
 have HB5 : Hid (Below w.heap.size w w5) := HB4.out.trans (hb.mono HB4.out.size)
 have HX1 := Lib.hid (HX1.out.below hb)
 have HX2 := Lib.hid (HX2.out.below hb)
 clear hb
 go_wp2_with fail
 refine (wrong_c (opB getB) 0 1 x1 w5 HX1.out (by decide) (HE.out.below HB5.out)).mono ?_
 rintro _ w6 ⟨rfl, hb⟩
 have HB6 : Hid (Below w.heap.size w w6) := HB5.out.trans (hb.mono HB5.out.size)
 have HX2 := Lib.hid (HX2.out.below hb)
 clear hb
 go_wp2_with fail
 refine (wrong_c (opB deleteB) 0 1 x2 w6 HX2.out (by decide) (HE.out.below HB6.out)).mono ?_
 rintro _ w7 ⟨rfl, hb⟩
 have HB7 : Hid (Below w.heap.size w w7) := HB6.out.trans (hb.mono HB6.out.size)
 clear hb
 go_wp2_with fail
 refine (tn.apply w7 none 0 0).mono ?_
 rintro _ w8 ⟨x4, rfl, hx, hb⟩
 have HB8 : Hid (Below w.heap.size w w8) := HB7.out.trans (hb.mono HB7.out.size)
 have HX4 := Lib.hid hx
 clear hx
 clear hb
 go_wp2_with fail
 refine (wrong_c (opB applyB) 0 1 x4 w8 HX4.out (by decide) (HE.out.below HB8.out)).mono ?_
 rintro _ w9 ⟨rfl, hb⟩
 have HB9 : Hid (Below w.heap.size w w9) := HB8.out.trans (hb.mono HB8.out.size)
 clear hb
 go_wp2_with fail
 refine (tn.root w9).mono ?_
 rintro _ w10 ⟨rfl, hb⟩
 have HB10 : Hid (Below w.heap.size w w10) := HB9.out.trans (hb.mono HB9.out.size)
 clear hb
 go_wp2_with fail
 refine (tn.len w10).mono ?_
 rintro _ w11 ⟨rfl, hb⟩
 have HB11 : Hid (Below w.heap.size w w11) := HB10.out.trans (hb.mono HB10.out.size)
 clear hb
 go_wp2_with fail
 refine (tn.entries w11).mono ?_
 rintro _ w12 ⟨A5, c5, rfl, hb⟩
 have HB12 : Hid (Below w.heap.size w w12) := HB11.out.trans (hb.mono HB11.out.size)
 clear hb
 go_wp2_with fail
 refine (tn.clone w12).mono ?_
 rintro _ w13 ⟨rfl, hb⟩
 have HB13 : Hid (Below w.heap.size w w13) := HB12.out.trans (hb.mono HB12.out.size)
 clear hb
 go_wp2_with fail
 refine (tn.node w13).mono ?_
 rintro _ w14 ⟨rfl, hb⟩
 have HB14 : Hid (Below w.heap.size w w14) := HB13.out.trans (hb.mono HB13.out.size)
 clear hb
 go_wp2_with fail
 refine (tn.hasher w14).mono ?_
 rintro _ w15 ⟨rfl, hb⟩
 have HB15 : Hid (Below w.heap.size w w15) := HB14.out.trans (hb.mono HB14.out.size)
 clear hb
 go_wp2_with fail
 go_ret
 exact ⟨rfl, HB15.out⟩
end Go.Proofs.YtkejfdgmdjfdoaaGreatDoor
