import Derived.Test.YtjgdindjimbfeaaGreatDoorTM
import Derived.Test.YtjgdindjimbfeaaGreatDoorMD
namespace Go.Proofs.YtjgdindjimbfeaaGreatDoor
set_option linter.unusedSimpArgs false
set_option linter.unusedVariables false
set_option maxHeartbeats 8000000
set_option maxRecDepth 100000
open Go.RowKit
theorem checks18_o1 (ve : VeV) (al : Alive18) (n : Int) (c : Cl) (A B : Option Addr) (ca cb : Nat) (root bs : List UInt8) (R D : Option Addr) (cr cd : Nat) (W : World) (hV : Vars W) (hE : Ft.ErrVar W) (hc : ClOk W c A ca B cb) (hR : BA W R root) (hr : root.length ≤ cr) (hD : BA W D bs) (hd : bs.length ≤ cd) (h : n < 0 ∨ 256 < n) :
  Calls Tryz.prog 3 #[.int .i64 n, .agg (clC c A ca B cb), .agg #[.slice R root.length cr, .slice D bs.length cd]] W (Aye W) := by
 obtain ⟨X, hX⟩ : ∃ X, X = (W.alloc (.cells (clC c A ca B cb) 24)).alloc (.cells #[.slice R root.length cr, .slice D bs.length cd] 25) := ⟨_, rfl⟩
 have hbX : Below W.heap.size W X := by rw [hX]; exact Bt.two_below _ _ _
 have hCX : ClAt X W.heap.size c A ca B cb := by rw [hX]; exact heap_alloc2_old W _ _
 have hRX : X.heap[W.heap.size + 1]? = some (.cells #[.slice R root.length cr, .slice D bs.length cd] 25 (0, 0)) := by rw [hX]; exact heap_alloc2_new W _ _
 have cr0 : ∀ x : Later X, x.w.cell? ⟨W.heap.size + 1, 0, none⟩ = some (.slice R root.length cr) := fun x => by rw [x.h.cell (p := ⟨_, 0, none⟩) (lt_of_heap hRX), cell_of_cells hRX]; rfl
 have cr1 : ∀ x : Later X, x.w.cell? ⟨W.heap.size + 1, 1, none⟩ = some (.slice D bs.length cd) := fun x => by rw [x.h.cell (p := ⟨_, 1, none⟩) (lt_of_heap hRX), cell_of_cells hRX]; rfl
 have HX := Lib.hid hX
 have HBX := Lib.hid hbX
 have HCX := Lib.hid hCX
 have HV := Lib.hid (hV.below hbX)
 have HE := Lib.hid (hE.below hbX)
 have HCO := Lib.hid (hc.below hbX)
 have HRR := Lib.hid (hR.below hbX)
 have HDD := Lib.hid (hD.below hbX)
 have HCR := Lib.hid hr
 have HCD := Lib.hid hd
 have HVE := Lib.hid ve
 have HAL := Lib.hid al
 have HR : Hid (∀ w, Calls Tryz.prog 9 #[.int .i64 n] w fun e w' => e = .returned (.bool false) ∧ w = w') := fun w => by
  have := right5_c n w
  rwa [decide_eq_false (by omega)] at this
 clear h
 clear hX hbX hCX hRX hV hE hc hR hD hr hd ve al
 go_enter Tryz.func3, Tryz.ntmps3
 go_wp2_with fail
 rw [← HX.out]
 refine wp_region_later (by kernel_rfl) (by kernel_rfl) ?_
 repeat (go_big_quiet_step (fail))
 refine wpQuiet_nil ?_
 rintro _ ⟨x, rfl⟩
 have HB0 : Hid (Below X.heap.size X x.w) := x.h
 have HC0 : Hid (ClAt x.w W.heap.size c A ca B cb) := HCX.out.below HB0.out (lt_of_heap HCX.out)
 have lc0 := HC0.out.ld
 clear cr0 cr1
 go_wp2_with fail
 refine (HR.out _).mono ?_
 rintro _ wr ⟨rfl, hwr⟩
 rw [← hwr]
 clear hwr
 go_wp2_with fail
 refine (HAL.out x.w (HV.out.below HB0.out) (HE.out.below HB0.out)).mono ?_
 rintro _ wa ⟨rfl, hba⟩
 have HBA := Lib.hid (HBX.out.trans (((HB0.out).trans (hba.mono (HB0.out).size)).mono HBX.out.size))
 clear hba
 go_wp2
 go_ret
 exact ⟨rfl, HBA.out⟩
theorem checks18_o2 (ve : VeV) (al : Alive18) (n : Int) (c : Cl) (A B : Option Addr) (ca cb : Nat) (root bs : List UInt8) (R D : Option Addr) (cr cd : Nat) (W : World) (hV : Vars W) (hE : Ft.ErrVar W) (hc : ClOk W c A ca B cb) (hR : BA W R root) (hr : root.length ≤ cr) (hD : BA W D bs) (hd : bs.length ≤ cd) (h : ¬ (n < 0 ∨ 256 < n)) (hs : 100 < c.k.length ∨ 70000 < c.v.length) :
  Calls Tryz.prog 3 #[.int .i64 n, .agg (clC c A ca B cb), .agg #[.slice R root.length cr, .slice D bs.length cd]] W (Aye W) := by
 obtain ⟨X, hX⟩ : ∃ X, X = (W.alloc (.cells (clC c A ca B cb) 24)).alloc (.cells #[.slice R root.length cr, .slice D bs.length cd] 25) := ⟨_, rfl⟩
 have hbX : Below W.heap.size W X := by rw [hX]; exact Bt.two_below _ _ _
 have hCX : ClAt X W.heap.size c A ca B cb := by rw [hX]; exact heap_alloc2_old W _ _
 have hRX : X.heap[W.heap.size + 1]? = some (.cells #[.slice R root.length cr, .slice D bs.length cd] 25 (0, 0)) := by rw [hX]; exact heap_alloc2_new W _ _
 have cr0 : ∀ x : Later X, x.w.cell? ⟨W.heap.size + 1, 0, none⟩ = some (.slice R root.length cr) := fun x => by rw [x.h.cell (p := ⟨_, 0, none⟩) (lt_of_heap hRX), cell_of_cells hRX]; rfl
 have cr1 : ∀ x : Later X, x.w.cell? ⟨W.heap.size + 1, 1, none⟩ = some (.slice D bs.length cd) := fun x => by rw [x.h.cell (p := ⟨_, 1, none⟩) (lt_of_heap hRX), cell_of_cells hRX]; rfl
 have HX := Lib.hid hX
 have HBX := Lib.hid hbX
 have HCX := Lib.hid hCX
 have HV := Lib.hid (hV.below hbX)
 have HE := Lib.hid (hE.below hbX)
 have HCO := Lib.hid (hc.below hbX)
 have HRR := Lib.hid (hR.below hbX)
 have HDD := Lib.hid (hD.below hbX)
 have HCR := Lib.hid hr
 have HCD := Lib.hid hd
 have HVE := Lib.hid ve
 have HAL := Lib.hid al
 have HR : Hid (∀ w, Calls Tryz.prog 9 #[.int .i64 n] w fun e w' => e = .returned (.bool true) ∧ w = w') := fun w => by
  have := right5_c n w
  rwa [decide_eq_true (by omega)] at this
 have HSV : Hid ((if 100 < c.k.length ∨ 70000 < c.v.length then (0 : Int) else 1) = 0) := if_pos hs
 clear h hs
 clear hX hbX hCX hRX hV hE hc hR hD hr hd ve al
 go_enter Tryz.func3, Tryz.ntmps3
 go_wp2_with fail
 rw [← HX.out]
 refine wp_region_later (by kernel_rfl) (by kernel_rfl) ?_
 repeat (go_big_quiet_step (fail))
 refine wpQuiet_nil ?_
 rintro _ ⟨x, rfl⟩
 have HB0 : Hid (Below X.heap.size X x.w) := x.h
 have HC0 : Hid (ClAt x.w W.heap.size c A ca B cb) := HCX.out.below HB0.out (lt_of_heap HCX.out)
 have lc0 := HC0.out.ld
 clear cr0 cr1
 go_wp2_with fail
 refine (HR.out _).mono ?_
 rintro _ wr ⟨rfl, hwr⟩
 rw [← hwr]
 clear hwr
 have HSH := short18_c c A B ca cb x.w
 rw [HSV.out] at HSH
 have HSH := Lib.hid HSH
 go_wp2_with fail
 refine HSH.out.mono ?_
 rintro _ w1 ⟨rfl, hb1⟩
 have HB1 := Lib.hid (keeps HB0.out hb1)
 have HC1 : Hid (ClAt w1 W.heap.size c A ca B cb) := HC0.out.below hb1 (lt_of_heap HC0.out)
 clear hb1 HSH lc0
 go_wp2_with fail
 refine (HAL.out w1 (HV.out.below HB1.out) (HE.out.below HB1.out)).mono ?_
 rintro _ wa ⟨rfl, hba⟩
 have HBA := Lib.hid (HBX.out.trans (((HB1.out).trans (hba.mono (HB1.out).size)).mono HBX.out.size))
 clear hba
 go_wp2
 go_ret
 exact ⟨rfl, HBA.out⟩
theorem checks18_o3 (ve : VeV) (al : Alive18) (n : Int) (c : Cl) (A B : Option Addr) (ca cb : Nat) (root bs : List UInt8) (R D : Option Addr) (cr cd : Nat) (W : World) (hV : Vars W) (hE : Ft.ErrVar W) (hc : ClOk W c A ca B cb) (hR : BA W R root) (hr : root.length ≤ cr) (hD : BA W D bs) (hd : bs.length ≤ cd) (h : ¬ (n < 0 ∨ 256 < n)) (hs : ¬ (100 < c.k.length ∨ 70000 < c.v.length)) (hl : 100 < root.length) :
  Calls Tryz.prog 3 #[.int .i64 n, .agg (clC c A ca B cb), .agg #[.slice R root.length cr, .slice D bs.length cd]] W (Aye W) := by
 obtain ⟨X, hX⟩ : ∃ X, X = (W.alloc (.cells (clC c A ca B cb) 24)).alloc (.cells #[.slice R root.length cr, .slice D bs.length cd] 25) := ⟨_, rfl⟩
 have hbX : Below W.heap.size W X := by rw [hX]; exact Bt.two_below _ _ _
 have hCX : ClAt X W.heap.size c A ca B cb := by rw [hX]; exact heap_alloc2_old W _ _
 have hRX : X.heap[W.heap.size + 1]? = some (.cells #[.slice R root.length cr, .slice D bs.length cd] 25 (0, 0)) := by rw [hX]; exact heap_alloc2_new W _ _
 have cr0 : ∀ x : Later X, x.w.cell? ⟨W.heap.size + 1, 0, none⟩ = some (.slice R root.length cr) := fun x => by rw [x.h.cell (p := ⟨_, 0, none⟩) (lt_of_heap hRX), cell_of_cells hRX]; rfl
 have cr1 : ∀ x : Later X, x.w.cell? ⟨W.heap.size + 1, 1, none⟩ = some (.slice D bs.length cd) := fun x => by rw [x.h.cell (p := ⟨_, 1, none⟩) (lt_of_heap hRX), cell_of_cells hRX]; rfl
 have HX := Lib.hid hX
 have HBX := Lib.hid hbX
 have HCX := Lib.hid hCX
 have HV := Lib.hid (hV.below hbX)
 have HE := Lib.hid (hE.below hbX)
 have HCO := Lib.hid (hc.below hbX)
 have HRR := Lib.hid (hR.below hbX)
 have HDD := Lib.hid (hD.below hbX)
 have HCR := Lib.hid hr
 have HCD := Lib.hid hd
 have HVE := Lib.hid ve
 have HAL := Lib.hid al
 have HR : Hid (∀ w, Calls Tryz.prog 9 #[.int .i64 n] w fun e w' => e = .returned (.bool true) ∧ w = w') := fun w => by
  have := right5_c n w
  rwa [decide_eq_true (by omega)] at this
 have HSV : Hid ((if 100 < c.k.length ∨ 70000 < c.v.length then (0 : Int) else 1) = 1) := if_neg hs
 have d1 : decide ((100 : Int) < (root.length : Int)) = true := decide_eq_true (by omega)
 clear h hs hl
 clear hX hbX hCX hRX hV hE hc hR hD hr hd ve al
 go_enter Tryz.func3, Tryz.ntmps3
 go_wp2_with fail
 rw [← HX.out]
 refine wp_region_later (by kernel_rfl) (by kernel_rfl) ?_
 repeat (go_big_quiet_step (fail))
 refine wpQuiet_nil ?_
 rintro _ ⟨x, rfl⟩
 have HB0 : Hid (Below X.heap.size X x.w) := x.h
 have HC0 : Hid (ClAt x.w W.heap.size c A ca B cb) := HCX.out.below HB0.out (lt_of_heap HCX.out)
 have lc0 := HC0.out.ld
 clear cr0 cr1
 go_wp2_with fail
 refine (HR.out _).mono ?_
 rintro _ wr ⟨rfl, hwr⟩
 rw [← hwr]
 clear hwr
 have HSH := short18_c c A B ca cb x.w
 rw [HSV.out] at HSH
 have HSH := Lib.hid HSH
 go_wp2_with fail
 refine HSH.out.mono ?_
 rintro _ w1 ⟨rfl, hb1⟩
 have HB1 := Lib.hid (keeps HB0.out hb1)
 have HC1 : Hid (ClAt w1 W.heap.size c A ca B cb) := HC0.out.below hb1 (lt_of_heap HC0.out)
 clear hb1 HSH lc0
 go_wp2_with fail
 refine (HAL.out w1 (HV.out.below HB1.out) (HE.out.below HB1.out)).mono ?_
 rintro _ wa ⟨rfl, hba⟩
 have HBA := Lib.hid (HBX.out.trans (((HB1.out).trans (hba.mono (HB1.out).size)).mono HBX.out.size))
 clear hba
 go_wp2
 go_ret
 exact ⟨rfl, HBA.out⟩
theorem checks18_o4 (ve : VeV) (al : Alive18) (n : Int) (c : Cl) (A B : Option Addr) (ca cb : Nat) (root bs : List UInt8) (R D : Option Addr) (cr cd : Nat) (W : World) (hV : Vars W) (hE : Ft.ErrVar W) (hc : ClOk W c A ca B cb) (hR : BA W R root) (hr : root.length ≤ cr) (hD : BA W D bs) (hd : bs.length ≤ cd) (h : ¬ (n < 0 ∨ 256 < n)) (hs : ¬ (100 < c.k.length ∨ 70000 < c.v.length)) (hl : ¬ 100 < root.length) (hm : 10000 < bs.length) :
  Calls Tryz.prog 3 #[.int .i64 n, .agg (clC c A ca B cb), .agg #[.slice R root.length cr, .slice D bs.length cd]] W (Aye W) := by
 obtain ⟨X, hX⟩ : ∃ X, X = (W.alloc (.cells (clC c A ca B cb) 24)).alloc (.cells #[.slice R root.length cr, .slice D bs.length cd] 25) := ⟨_, rfl⟩
 have hbX : Below W.heap.size W X := by rw [hX]; exact Bt.two_below _ _ _
 have hCX : ClAt X W.heap.size c A ca B cb := by rw [hX]; exact heap_alloc2_old W _ _
 have hRX : X.heap[W.heap.size + 1]? = some (.cells #[.slice R root.length cr, .slice D bs.length cd] 25 (0, 0)) := by rw [hX]; exact heap_alloc2_new W _ _
 have cr0 : ∀ x : Later X, x.w.cell? ⟨W.heap.size + 1, 0, none⟩ = some (.slice R root.length cr) := fun x => by rw [x.h.cell (p := ⟨_, 0, none⟩) (lt_of_heap hRX), cell_of_cells hRX]; rfl
 have cr1 : ∀ x : Later X, x.w.cell? ⟨W.heap.size + 1, 1, none⟩ = some (.slice D bs.length cd) := fun x => by rw [x.h.cell (p := ⟨_, 1, none⟩) (lt_of_heap hRX), cell_of_cells hRX]; rfl
 have HX := Lib.hid hX
 have HBX := Lib.hid hbX
 have HCX := Lib.hid hCX
 have HV := Lib.hid (hV.below hbX)
 have HE := Lib.hid (hE.below hbX)
 have HCO := Lib.hid (hc.below hbX)
 have HRR := Lib.hid (hR.below hbX)
 have HDD := Lib.hid (hD.below hbX)
 have HCR := Lib.hid hr
 have HCD := Lib.hid hd
 have HVE := Lib.hid ve
 have HAL := Lib.hid al
 have HR : Hid (∀ w, Calls Tryz.prog 9 #[.int .i64 n] w fun e w' => e = .returned (.bool true) ∧ w = w') := fun w => by
  have := right5_c n w
  rwa [decide_eq_true (by omega)] at this
 have HSV : Hid ((if 100 < c.k.length ∨ 70000 < c.v.length then (0 : Int) else 1) = 1) := if_neg hs
 have d1 : decide ((100 : Int) < (root.length : Int)) = false := decide_eq_false (by omega)
 have d2 : decide ((10000 : Int) < (bs.length : Int)) = true := decide_eq_true (by omega)
 clear h hs hl hm
 clear hX hbX hCX hRX hV hE hc hR hD hr hd ve al
 go_enter Tryz.func3, Tryz.ntmps3
 go_wp2_with fail
 rw [← HX.out]
 refine wp_region_later (by kernel_rfl) (by kernel_rfl) ?_
 repeat (go_big_quiet_step (fail))
 refine wpQuiet_nil ?_
 rintro _ ⟨x, rfl⟩
 have HB0 : Hid (Below X.heap.size X x.w) := x.h
 have HC0 : Hid (ClAt x.w W.heap.size c A ca B cb) := HCX.out.below HB0.out (lt_of_heap HCX.out)
 have lc0 := HC0.out.ld
 clear cr0 cr1
 go_wp2_with fail
 refine (HR.out _).mono ?_
 rintro _ wr ⟨rfl, hwr⟩
 rw [← hwr]
 clear hwr
 have HSH := short18_c c A B ca cb x.w
 rw [HSV.out] at HSH
 have HSH := Lib.hid HSH
 go_wp2_with fail
 refine HSH.out.mono ?_
 rintro _ w1 ⟨rfl, hb1⟩
 have HB1 := Lib.hid (keeps HB0.out hb1)
 have HC1 : Hid (ClAt w1 W.heap.size c A ca B cb) := HC0.out.below hb1 (lt_of_heap HC0.out)
 clear hb1 HSH lc0
 go_wp2_with fail
 refine (HAL.out w1 (HV.out.below HB1.out) (HE.out.below HB1.out)).mono ?_
 rintro _ wa ⟨rfl, hba⟩
 have HBA := Lib.hid (HBX.out.trans (((HB1.out).trans (hba.mono (HB1.out).size)).mono HBX.out.size))
 clear hba
 go_wp2
 go_ret
 exact ⟨rfl, HBA.out⟩
theorem checks18_in (ve : VeV) (al : Alive18) (n : Int) (c : Cl) (A B : Option Addr) (ca cb : Nat) (root bs : List UInt8) (R D : Option Addr) (cr cd : Nat) (W : World) (hV : Vars W) (hE : Ft.ErrVar W) (hc : ClOk W c A ca B cb) (hR : BA W R root) (hr : root.length ≤ cr) (hD : BA W D bs) (hd : bs.length ≤ cd) (h : ¬ (n < 0 ∨ 256 < n)) (hs : ¬ (100 < c.k.length ∨ 70000 < c.v.length)) (hl : ¬ 100 < root.length) (hm : ¬ 10000 < bs.length) :
  Calls Tryz.prog 3 #[.int .i64 n, .agg (clC c A ca B cb), .agg #[.slice R root.length cr, .slice D bs.length cd]] W (Aye W) := by
 obtain ⟨X, hX⟩ : ∃ X, X = (W.alloc (.cells (clC c A ca B cb) 24)).alloc (.cells #[.slice R root.length cr, .slice D bs.length cd] 25) := ⟨_, rfl⟩
 have hbX : Below W.heap.size W X := by rw [hX]; exact Bt.two_below _ _ _
 have hCX : ClAt X W.heap.size c A ca B cb := by rw [hX]; exact heap_alloc2_old W _ _
 have hRX : X.heap[W.heap.size + 1]? = some (.cells #[.slice R root.length cr, .slice D bs.length cd] 25 (0, 0)) := by rw [hX]; exact heap_alloc2_new W _ _
 have cr0 : ∀ x : Later X, x.w.cell? ⟨W.heap.size + 1, 0, none⟩ = some (.slice R root.length cr) := fun x => by rw [x.h.cell (p := ⟨_, 0, none⟩) (lt_of_heap hRX), cell_of_cells hRX]; rfl
 have cr1 : ∀ x : Later X, x.w.cell? ⟨W.heap.size + 1, 1, none⟩ = some (.slice D bs.length cd) := fun x => by rw [x.h.cell (p := ⟨_, 1, none⟩) (lt_of_heap hRX), cell_of_cells hRX]; rfl
 have HX := Lib.hid hX
 have HBX := Lib.hid hbX
 have HCX := Lib.hid hCX
 have HV := Lib.hid (hV.below hbX)
 have HE := Lib.hid (hE.below hbX)
 have HCO := Lib.hid (hc.below hbX)
 have HRR := Lib.hid (hR.below hbX)
 have HDD := Lib.hid (hD.below hbX)
 have HCR := Lib.hid hr
 have HCD := Lib.hid hd
 have HVE := Lib.hid ve
 have HAL := Lib.hid al
 have HR : Hid (∀ w, Calls Tryz.prog 9 #[.int .i64 n] w fun e w' => e = .returned (.bool true) ∧ w = w') := fun w => by
  have := right5_c n w
  rwa [decide_eq_true (by omega)] at this
 have HSV : Hid ((if 100 < c.k.length ∨ 70000 < c.v.length then (0 : Int) else 1) = 1) := if_neg hs
 have d1 : decide ((100 : Int) < (root.length : Int)) = false := decide_eq_false (by omega)
 have d2 : decide ((10000 : Int) < (bs.length : Int)) = false := decide_eq_false (by omega)
 have HM : Hid (bs.length ≤ 1000000) := by show _ ≤ _; omega
 clear hs hl hm
 clear hX hbX hCX hRX hV hE hc hR hD hr hd ve al
 go_enter Tryz.func3, Tryz.ntmps3
 go_wp2_with fail
 rw [← HX.out]
 refine wp_region_later (by kernel_rfl) (by kernel_rfl) ?_
 repeat (go_big_quiet_step (fail))
 refine wpQuiet_nil ?_
 rintro _ ⟨x, rfl⟩
 have HB0 : Hid (Below X.heap.size X x.w) := x.h
 have HC0 : Hid (ClAt x.w W.heap.size c A ca B cb) := HCX.out.below HB0.out (lt_of_heap HCX.out)
 have lc0 := HC0.out.ld
 clear cr0 cr1
 go_wp2_with fail
 refine (HR.out _).mono ?_
 rintro _ wr ⟨rfl, hwr⟩
 rw [← hwr]
 clear hwr
 have HSH := short18_c c A B ca cb x.w
 rw [HSV.out] at HSH
 have HSH := Lib.hid HSH
 go_wp2_with fail
 refine HSH.out.mono ?_
 rintro _ w1 ⟨rfl, hb1⟩
 have HB1 := Lib.hid (keeps HB0.out hb1)
 have HC1 : Hid (ClAt w1 W.heap.size c A ca B cb) := HC0.out.below hb1 (lt_of_heap HC0.out)
 clear hb1 HSH lc0
 have HHS := Lib.hid (hash_in n w1 (by omega) (by omega))
 go_wp2_with fail
 refine HHS.out.mono ?_
 rintro _ w2 ⟨b, rfl, hb, hH, hB⟩
 have HN2 := Lib.hid (show X.heap.size ≤ b from Nat.le_trans HB1.out.size hb)
 have HH2 := Lib.hid hH
 have HB2 := Lib.hid (keeps HB1.out hB)
 have HC2 : Hid (ClAt w2 W.heap.size c A ca B cb) := HC1.out.below hB (lt_of_heap HC1.out)
 have lc2 := HC2.out.ld
 have HRF := rcheck18_c n root R cr c A B ca cb bs D cd w2 (HRR.out.below HB2.out) (HCO.out.key.below HB2.out) (HCO.out.val.below HB2.out) (HDD.out.below HB2.out) HM.out
 obtain ⟨z, hz⟩ : ∃ z, z = ckV n root c bs := ⟨_, rfl⟩
 rw [← hz] at HRF
 have HRF := Lib.hid HRF
 have HZ := Lib.hid hz
 clear hb hH hB HHS hz
 go_wp2_with fail
 refine HRF.out.mono ?_
 rintro _ w3 ⟨rfl, hb3⟩
 have HB3 := Lib.hid (keeps HB2.out hb3)
 have HH3 := Lib.hid (HH2.out.keep (Keep.of_below (L := fun _ => False) hb3) id)
 have HC3 : Hid (ClAt w3 W.heap.size c A ca B cb) := HC2.out.below hb3 (lt_of_heap HC2.out)
 have lc3 := HC3.out.ld
 have HCK := HVE.out.check w3 b n 0 root R cr c A B ca cb bs D cd HH3.out (by decide) (HV.out.below HB3.out) (HE.out.below HB3.out) (HRR.out.below HB3.out) HCR.out (HCO.out.below HB3.out) (HDD.out.below HB3.out) HCD.out HM.out
 rw [← HZ.out] at HCK
 have HCK := Lib.hid HCK
 clear hb3 HRF lc2
 go_wp2_with fail
 refine HCK.out.mono ?_
 rintro _ w4 ⟨m4, rfl, hm4, hH4, hK4⟩
 have HB4 := Lib.hid (keep_new HB3.out HN2.out hK4)
 have HH4 := Lib.hid hH4
 have HM4 : Hid (decide ((m4 : Int) ≤ 259) = true) := decide_eq_true (by omega)
 clear hm4 hH4 hK4 HCK lc3
 go_wp2_with fail
 refine (HAL.out w4 (HV.out.below HB4.out) (HE.out.below HB4.out)).mono ?_
 rintro _ w5 ⟨rfl, hb5⟩
 have HB5 := Lib.hid (keeps HB4.out hb5)
 have HH5 := Lib.hid (HH4.out.keep (Keep.of_below (L := fun _ => False) hb5) id)
 have HCC := Lib.hid (calls_c b n m4 w5 HH5.out)
 clear hb5
 go_wp2_with fail
 refine HCC.out.mono ?_
 rintro _ wr ⟨rfl, hwr⟩
 rw [← hwr]
 have d3 := HM4.out
 have HBA := Lib.hid (HBX.out.trans (HB5.out.mono HBX.out.size))
 clear hwr HCC
 go_wp2
 go_ret
 exact ⟨rfl, HBA.out⟩
theorem checks18_w (ve : VeV) (al : Alive18) (n : Int) (c : Cl) (A B : Option Addr) (ca cb : Nat) (root bs : List UInt8) (R D : Option Addr) (cr cd : Nat) (W : World) (hV : Vars W) (hE : Ft.ErrVar W) (hc : ClOk W c A ca B cb) (hR : BA W R root) (hr : root.length ≤ cr) (hD : BA W D bs) (hd : bs.length ≤ cd) :
  Calls Tryz.prog 3 #[.int .i64 n, .agg (clC c A ca B cb), .agg #[.slice R root.length cr, .slice D bs.length cd]] W (Aye W) := by
 by_cases h : n < 0 ∨ 256 < n
 ·exact checks18_o1 ve al n c A B ca cb root bs R D cr cd W hV hE hc hR hr hD hd h
 by_cases hs : 100 < c.k.length ∨ 70000 < c.v.length
 ·exact checks18_o2 ve al n c A B ca cb root bs R D cr cd W hV hE hc hR hr hD hd h hs
 by_cases hl : 100 < root.length
 ·exact checks18_o3 ve al n c A B ca cb root bs R D cr cd W hV hE hc hR hr hD hd h hs hl
 by_cases hm : 10000 < bs.length
 ·exact checks18_o4 ve al n c A B ca cb root bs R D cr cd W hV hE hc hR hr hD hd h hs hl hm
 exact checks18_in ve al n c A B ca cb root bs R D cr cd W hV hE hc hR hr hD hd h hs hl hm
end Go.Proofs.YtjgdindjimbfeaaGreatDoor
