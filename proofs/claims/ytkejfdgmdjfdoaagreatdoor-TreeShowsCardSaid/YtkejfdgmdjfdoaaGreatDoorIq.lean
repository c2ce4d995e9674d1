import Derived.Test.YtkejfdgmdjfdoaaGreatDoorIp
namespace Go.Proofs.YtkejfdgmdjfdoaaGreatDoor
set_option linter.unusedSimpArgs false
set_option linter.unusedVariables false
set_option maxHeartbeats 16000000
set_option maxRecDepth 100000
open Go.RowKit
theorem shows13_out {M : World → Int → Tv → Prop} {Tr : World → Nat → Nat → Int → Tv → Prop} (nd : NdV M) (tv : TrV M Tr) (n : Int) (A : Option Addr) (cA : Nat) (k : List UInt8) (B : Option Addr) (cB : Nat) (v : List UInt8) (w : World) (hV : Vars w) (hE : Ft.ErrVar w) (hn : n < 0 ∨ 256 < n) : Calls Tryz.prog 7 #[.int .i64 n, .slice A k.length cA, .slice B v.length cB] w (Aye w) := by
 have HV := Lib.hid hV
 have HE := Lib.hid hE
 have HNW := Lib.hid (tv.new_no w n hn)
 have HAL : Hid (∀ y, Below w.heap.size w y → Calls Tryz.prog 11 #[] y fun e w' => e = .returned (.bool true) ∧ Below y.heap.size y w') := fun y hy => alive13_c nd tv y (HV.out.below hy) (HE.out.below hy)
 have HRG : Hid (decide (0 ≤ n ∧ n ≤ 256) = false) := decide_eq_false (by omega)
 clear hV hE hn
 go_enter Tryz.func7, Tryz.ntmps7
 go_wp2_with fail
 refine HNW.out.mono ?_
 rintro _ w1 ⟨rfl, hB1⟩
 have HB1 := Lib.hid hB1
 have HRT := Lib.hid (right5_c n w1)
 rw [HRG.out] at HRT
 clear hB1 HNW
 go_wp2_with fail
 refine HRT.out.mono ?_
 rintro _ _ ⟨rfl, rfl⟩
 go_wp2_with fail
 refine (HAL.out w1 HB1.out).mono ?_
 rintro _ wz ⟨rfl, hBx⟩
 have HBx := Lib.hid ((HB1.out).trans (hBx.mono (HB1.out).size))
 clear hBx
 go_wp2_with fail
 go_ret
 exact ⟨rfl, HBx.out⟩
theorem shows13_few {M : World → Int → Tv → Prop} {Tr : World → Nat → Nat → Int → Tv → Prop} (nd : NdV M) (tv : TrV M Tr) (n : Int) (A : Option Addr) (cA : Nat) (k : List UInt8) (B : Option Addr) (cB : Nat) (v : List UInt8) (w : World) (hV : Vars w) (hE : Ft.ErrVar w) (h0 : 0 ≤ n) (h1 : n ≤ 256) (hr : rightK k v ≠ 0 ∨ 300 < v.length) : Calls Tryz.prog 7 #[.int .i64 n, .slice A k.length cA, .slice B v.length cB] w (Aye w) := by
 have HV := Lib.hid hV
 have HE := Lib.hid hE
 have HNW := Lib.hid (tv.new_yes w n h0 h1)
 have HAL : Hid (∀ y, Below w.heap.size w y → Calls Tryz.prog 11 #[] y fun e w' => e = .returned (.bool true) ∧ Below y.heap.size y w') := fun y hy => alive13_c nd tv y (HV.out.below hy) (HE.out.below hy)
 have HRG : Hid (decide (0 ≤ n ∧ n ≤ 256) = true) := decide_eq_true ⟨h0, h1⟩
 unfold ptr at HNW
 clear hV hE h0 h1
 rcases Classical.em (rightK k v = 0) with hz | hz
 ·have hl : 300 < v.length := by rcases hr with h | h; exact absurd hz h; exact h
  have d1 : decide (300 < v.length) = true := decide_eq_true hl
  have d2 : decide (300 < (v.length : Int)) = true := decide_eq_true (by omega)
  have HZ := Lib.hid hz
  clear hr hz hl
  go_enter Tryz.func7, Tryz.ntmps7
  go_wp2_with fail
  refine HNW.out.mono ?_
  rintro _ w1 ⟨p, b, rfl, _, _, _, _, hB1⟩
  have HB1 := Lib.hid hB1
  have HRT := Lib.hid (right5_c n w1)
  rw [HRG.out] at HRT
  clear hB1 HNW
  go_wp2_with fail
  refine HRT.out.mono ?_
  rintro _ _ ⟨rfl, rfl⟩
  have HR3 := Lib.hid (right13_c A B cA cB k v w1)
  rw [HZ.out] at HR3
  go_wp2_with fail
  refine HR3.out.mono ?_
  rintro _ _ ⟨rfl, rfl⟩
  go_wp2_with fail
  refine (HAL.out w1 HB1.out).mono ?_
  rintro _ wz ⟨rfl, hBx⟩
  have HBx := Lib.hid ((HB1.out).trans (hBx.mono (HB1.out).size))
  clear hBx
  go_wp2_with fail
  go_ret
  exact ⟨rfl, HBx.out⟩
 ·have q : (rightK k v != 0) = true := bne_iff_ne.2 hz
  obtain ⟨z, hzz⟩ : ∃ z, z = rightK k v := ⟨_, rfl⟩
  rw [← hzz] at q
  have HZ := Lib.hid hzz
  clear hr hz hzz
  go_enter Tryz.func7, Tryz.ntmps7
  go_wp2_with fail
  refine HNW.out.mono ?_
  rintro _ w1 ⟨p, b, rfl, _, _, _, _, hB1⟩
  have HB1 := Lib.hid hB1
  have HRT := Lib.hid (right5_c n w1)
  rw [HRG.out] at HRT
  clear hB1 HNW
  go_wp2_with fail
  refine HRT.out.mono ?_
  rintro _ _ ⟨rfl, rfl⟩
  have HR3 := Lib.hid (right13_c A B cA cB k v w1)
  rw [← HZ.out] at HR3
  go_wp2_with fail
  refine HR3.out.mono ?_
  rintro _ _ ⟨rfl, rfl⟩
  go_wp2_with fail
  refine (HAL.out w1 HB1.out).mono ?_
  rintro _ wz ⟨rfl, hBx⟩
  have HBx := Lib.hid ((HB1.out).trans (hBx.mono (HB1.out).size))
  clear hBx
  go_wp2_with fail
  go_ret
  exact ⟨rfl, HBx.out⟩
theorem shows13_in {M : World → Int → Tv → Prop} {Tr : World → Nat → Nat → Int → Tv → Prop} (nd : NdV M) (tv : TrV M Tr) (n : Int) (A : Option Addr) (cA : Nat) (k : List UInt8) (B : Option Addr) (cB : Nat) (v : List UInt8) (w : World) (hA : BA w A k) (hcA : k.length ≤ cA) (hB : BA w B v) (hcB : v.length ≤ cB) (hV : Vars w) (hE : Ft.ErrVar w) (h0 : 0 ≤ n) (h1 : n ≤ 256) (hr : rightK k v = 0) (hl : v.length ≤ 300) : Calls Tryz.prog 7 #[.int .i64 n, .slice A k.length cA, .slice B v.length cB] w (Aye w) := by
 have HA := Lib.hid hA
 have HBv := Lib.hid hB
 have HCA := Lib.hid hcA
 have HCB := Lib.hid hcB
 have HV := Lib.hid hV
 have HE := Lib.hid hE
 have HRK := Lib.hid hr
 have HKL : Hid (k.length = 32) := (rightK_zero hr).1
 have HVL : Hid (v.length ≤ 300) := hl
 have HNW := Lib.hid (tv.new_yes w n h0 h1)
 have HAL : Hid (∀ y, Below w.heap.size w y → Calls Tryz.prog 11 #[] y fun e w' => e = .returned (.bool true) ∧ Below y.heap.size y w') := fun y hy => alive13_c nd tv y (HV.out.below hy) (HE.out.below hy)
 have HRG : Hid (decide (0 ≤ n ∧ n ≤ 256) = true) := decide_eq_true ⟨h0, h1⟩
 have d1 : decide (300 < v.length) = false := decide_eq_false (by omega)
 have d2 : decide (300 < (v.length : Int)) = false := decide_eq_false (by omega)
 have kl9 : k.length ≤ 32 := Nat.le_of_eq HKL.out
 have vl9 : v.length ≤ 300 := hl
 unfold ptr at HNW
 clear hA hB hcA hcB hV hE hr hl h0 h1
 go_enter Tryz.func7, Tryz.ntmps7
 go_wp2_with fail
 refine HNW.out.mono ?_
 rintro _ w1 ⟨p, b, rfl, hT, hH, hpw, hbw, hB1⟩
 have HT1 := Lib.hid hT
 have HH1 := Lib.hid hH
 have HB1 := Lib.hid hB1
 have HPW : Hid (w.heap.size ≤ p ∧ w.heap.size ≤ b) := ⟨hpw, hbw⟩
 have HPL : Hid (p < w1.heap.size ∧ b < w1.heap.size) := ⟨tv.lt hT, lt_of_heap hH⟩
 have HRT := Lib.hid (right5_c n w1)
 rw [HRG.out] at HRT
 clear hT hH hpw hbw hB1 HNW
 go_wp2_with fail
 refine HRT.out.mono ?_
 rintro _ _ ⟨rfl, rfl⟩
 have HR3 := Lib.hid (right13_c A B cA cB k v w1)
 rw [HRK.out] at HR3
 go_wp2_with fail
 refine HR3.out.mono ?_
 rintro _ _ ⟨rfl, rfl⟩
 clear HR3 HRT
 go_wp2_with (at_builtin; first
  | (refine wpList_catB0 rfl _ _ rfl w2.heap.size w2.heap.size 0 [] rfl (Nat.le_refl _) (own_empty w2) B cB v rfl ((HBv.out.below (HB1.out.trans (HB2.out.mono HB1.out.size))).below (below_one rfl)) (by simp; omega) (by simp) ?_; intro u3 w3 hO3 hB3; rw [List.nil_append] at hO3; have HO3 := Lib.hid hO3; have HB3 : Hid (Below w2.heap.size w2 w3) := ((below_one rfl).trans hB3); clear hO3 hB3)
  | (refine wpList_catB0 rfl _ _ rfl w1.heap.size w1.heap.size 0 [] rfl (Nat.le_refl _) (own_empty w1) A cA k rfl ((HA.out.below HB1.out).below (below_one rfl)) (by simp; omega) (by simp) ?_; intro u2 w2 hO2 hB2; rw [List.nil_append] at hO2; have HO2 := Lib.hid hO2; have HB2 : Hid (Below w1.heap.size w1 w2) := ((below_one rfl).trans hB2); clear hO2 hB2))
 obtain ⟨Ak, ck, rfl, hck, hbk⟩ := HO2.out.any
 obtain ⟨Av, cv, rfl, hcv, hbv⟩ := HO3.out.any
 have HRk := Lib.hid (NewB.blk2 ⟨hck, .inr HO2.out⟩)
 have HRv := Lib.hid (NewB.blk2 ⟨hcv, .inr HO3.out⟩)
 have HB13 : Hid (Below w1.heap.size w1 w3) := HB2.out.trans (HB3.out.mono HB2.out.size)
 have HB03 : Hid (Below w.heap.size w w3) := HB1.out.trans (HB13.out.mono HB1.out.size)
 have HBk := Lib.hid (hbk.below HB3.out)
 have HBw := Lib.hid hbv
 have HH3 : Hid (Hs w3 b n 0) := HH1.out.keep (Keep.of_below (L := fun _ => False) HB13.out) fun h => h
 have HT3 : Hid (Tr w3 p b n .nil) := tv.keep HT1.out (Keep.of_below (L := fun _ => False) HB13.out) fun h => h
 have HPU := Lib.hid ((tv.put w3 p b n 0 [] .nil Ak Av ck cv k v HT3.out HH3.out (by decide) (HV.out.below HB03.out) (nd.nil _ _) map_none List.Pairwise.nil (by decide) HBk.out hck HBw.out hcv (by omega) (by omega)).mono fun e w' h => h.1 HRK.out)
 unfold ptr at HPU
 have HCK := Lib.hid hck
 have HCV := Lib.hid hcv
 clear hck hcv hbk hbv HO2 HO3
 go_wp2_with fail
 refine HPU.out.mono ?_
 rintro _ w4 ⟨T, rfl, hD⟩
 have HD := Lib.hid hD
 have hctl : ∀ i, (i = b ∨ i = p) → Ctl w3 i := fun i hi => by
  rcases hi with e | e
  ·rw [e]; exact HH3.out.ctl
  ·rw [e]; exact tv.ctl HT3.out
 have HBk4 := Lib.hid (HBk.out.ctl hD.keep hctl)
 have HBw4 := Lib.hid (HBw.out.ctl hD.keep hctl)
 have HS12 := HB2.out.size
 have HS23 := HB3.out.size
 have HS34 := hD.keep.size
 have HS01 := HB1.out.size
 have HB04 : Hid (Below w.heap.size w w4) := HB03.out.trans (hD.keep.below HB03.out.size fun i hi => by
  have := HPW.out
  rcases hi with e | e <;> omega)
 have HRk4 : Hid (k = [] ∨ ∃ g, Ak = some ⟨g, 0, none⟩ ∧ w1.heap.size ≤ g ∧ g < w3.heap.size ∧ CellsAt w4 g) := HRk.out.imp id fun ⟨g, h1, h2, h3, h4⟩ => ⟨g, h1, h2, by omega, (h4.below HB3.out).keep hD.keep fun h => by
  have := HPL.out
  rcases h with e | e <;> omega⟩
 have HRv4 : Hid (v = [] ∨ ∃ g, Av = some ⟨g, 0, none⟩ ∧ w1.heap.size ≤ g ∧ g < w3.heap.size ∧ CellsAt w4 g) := HRv.out.imp id fun ⟨g, h1, h2, h3, h4⟩ => ⟨g, h1, by omega, by omega, h4.keep hD.keep fun h => by
  have := HPL.out
  rcases h with e | e <;> omega⟩
 have HIM : Hid (IsMap [⟨k, v⟩] T) := hD.im
 have HOF := Lib.hid (of2_c A cA k w4 (HA.out.below HB04.out) HKL.out)
 clear hD hctl HPU HRk HRv HBk HBw HT1 HH1
 go_wp2_with fail
 refine HOF.out.mono ?_
 rintro _ w5 ⟨rfl, hB5⟩
 have HB45 := Lib.hid hB5
 have HB05 : Hid (Below w.heap.size w w5) := HB04.out.trans (hB5.mono HB04.out.size)
 have HS45 := hB5.size
 have be := bldEntry ⟨k, B, v, cB⟩ HKL.out w5
 have bs := bsE_one ⟨k, B, v, cB⟩ HKL.out w5
 obtain ⟨V, hV⟩ : ∃ V, V = w5.alloc (.cells (enC ⟨k, B, v, cB⟩).toArray 42) := ⟨_, rfl⟩
 have hbV := below_one hV
 have HSV : Hid (V.heap.size = w5.heap.size + 1) := by show _ = _; rw [hV]; show (w5.heap.push _).size = _; rw [Array.size_push]
 have HRE : Hid (V.rangeAt w5.heap.size 0 (enC ⟨k, B, v, cB⟩)) := by show World.rangeAt _ _ _ _; rw [hV]; exact ent_made w5 _ _
 have HB4V : Hid (Below w4.heap.size w4 V) := hB5.trans (hbV.mono hB5.size)
 have HB0V : Hid (Below w.heap.size w V) := HB04.out.trans (HB4V.out.mono HB04.out.size)
 have HGE := Lib.hid (tv.get V p b n [⟨k, v⟩] T A cA k (tv.keep HD.out.tr (Keep.of_below (L := fun _ => False) HB4V.out) fun h => h) (nd.below HD.out.ms HB4V.out) HIM.out (HA.out.below HB0V.out) HCA.out (by omega))
 rw [valK_one] at HGE
 have HVV := Lib.hid hV
 unfold ptr at HGE
 clear hB5 hV hbV HOF
 go_wp2_with fail
 rw [← HVV.out]
 clear be bs
 refine HGE.out.mono ?_
 rintro _ w7 ⟨hg, _⟩
 obtain ⟨G, cG, rfl, hN7, hB7⟩ := hg HKL.out
 have HN7 : Hid (NewB w7 V.heap.size G cG v) := hN7
 have HB47 : Hid (Below w4.heap.size w4 w7) := HB4V.out.trans (hB7.mono HB4V.out.size)
 have HS7 := hB7.size
 have HBV7 := Lib.hid hB7
 have HEN := Lib.hid (tv.entries w7 p b n [⟨k, v⟩] T (tv.keep HD.out.tr (Keep.of_below (L := fun _ => False) HB47.out) fun h => h) (nd.below HD.out.ms HB47.out) HIM.out (List.pairwise_singleton _ _) (by simp))
 rw [show (some v : Option (List UInt8)).getD [] = v from rfl]
 unfold ptr at HEN
 clear hB7 hN7 hg HGE
 go_wp2_with fail
 refine HEN.out.mono ?_
 rintro _ w8 ⟨A8, c8, es8, rfl, hE8, hm8, hB8, hf8⟩
 obtain ⟨en, rfl⟩ : ∃ en, es8 = [en] := by
  have := congrArg List.length hm8
  rw [List.length_map] at this
  exact List.length_eq_one_iff.1 this
 have hen : en.ent = ⟨k, v⟩ := by simpa using hm8
 have henv : en.v = v := congrArg Ent.v hen
 obtain ⟨hok8, go, oo, rfl, hr8⟩ := hE8 0 en rfl
 have HC8 : Hid (w8.cell? ⟨go, oo + 32, none⟩ = some (.slice en.A v.length en.c)) := by
  have h1 := range_val hr8 hok8.key
  rw [henv] at h1
  show _ = _
  simpa using h1
 have HBE8 : Hid (BA w8 en.A v) := by
  have := hok8.val
  rwa [henv] at this
 have HFE8 : Hid (v = [] ∨ ∃ g, en.A = some ⟨g, 0, none⟩ ∧ w7.heap.size ≤ g ∧ CellsAt w8 g) := by
  have := hf8 en (by simp)
  unfold FreshV at this
  rw [henv] at this
  exact this.imp id fun ⟨g, h1, h2, _, h4⟩ => ⟨g, h1, h2, h4⟩
 have HB78 := Lib.hid hB8
 have HS8 := hB8.size
 rw [show [en].length = 1 from rfl]
 obtain ⟨W, hW⟩ : ∃ W, W = w8.alloc (.cells #[.slice Ak k.length ck, .slice Av v.length cv, .slice G v.length cG] 31) := ⟨_, rfl⟩
 have hbW := below_one hW
 have HW0 : Hid (W.heap[w8.heap.size]? = some (.cells #[.slice Ak k.length ck, .slice Av v.length cv, .slice G v.length cG] 31 (0, 0))) := heap_one hW
 have HBVW : Hid (Below V.heap.size V W) := HBV7.out.trans ((HB78.out.trans (hbW.mono HB78.out.size)).mono HBV7.out.size)
 have HB4W : Hid (Below w4.heap.size w4 W) := HB4V.out.trans (HBVW.out.mono HB4V.out.size)
 have HB0W : Hid (Below w.heap.size w W) := HB04.out.trans (HB4W.out.mono HB04.out.size)
 have HCW : Hid (W.cell? ⟨go, oo + 32, none⟩ = some (.slice en.A v.length en.c)) := by
  show _ = _
  rw [hbW.cell (lt_of_cell HC8.out)]
  exact HC8.out
 have HSW := hbW.size
 have HSVV := HSV.out
 have HWR : Hid (WR (fun i => w.heap.size ≤ i ∧ (i < w3.heap.size ∨ w4.heap.size ≤ i) ∧ i ≠ w5.heap.size ∧ i ≠ p ∧ i ≠ b) W [(Ak, k.length), (Av, v.length), (G, v.length), (en.A, v.length)] W) := by
  have hp := HPL.out
  refine WR.start fun r hr => ?_
  simp only [List.mem_cons, List.not_mem_nil, or_false] at hr
  rcases hr with rfl | rfl | rfl | rfl
  ·exact WRow.of_ba (HRk4.out.imp id fun ⟨g, h1, h2, h3, h4⟩ => ⟨g, h1, ⟨by omega, .inl h3, by omega, by omega, by omega⟩, h4.below HB4W.out⟩) (HBk4.out.below HB4W.out)
  ·exact WRow.of_ba (HRv4.out.imp id fun ⟨g, h1, h2, h3, h4⟩ => ⟨g, h1, ⟨by omega, .inl h3, by omega, by omega, by omega⟩, h4.below HB4W.out⟩) (HBw4.out.below HB4W.out)
  ·exact WRow.of_ba (HN7.out.blk2.imp id fun ⟨g, h1, h2, h3, h4⟩ => ⟨g, h1, ⟨by omega, .inr (by omega), by omega, by omega, by omega⟩, (h4.below HB78.out).below hbW⟩) ((HN7.out.ba.below HB78.out).below hbW)
  ·exact WRow.of_ba (HFE8.out.imp id fun ⟨g, h1, h2, h4⟩ => ⟨g, h1, ⟨by omega, .inr (by omega), by omega, by omega, by omega⟩, h4.below hbW⟩) (HBE8.out.below hbW)
 have HROW : Hid (∀ j, j < 3 → ∃ (Aj : Option Addr) (nj cj : Nat), W.cell? ⟨w8.heap.size, j, none⟩ = some (.slice Aj nj cj) ∧ (Aj, nj) ∈ [(Ak, k.length), (Av, v.length), (G, v.length), (en.A, v.length)] ∧ nj ≤ 300) := fun j hj => by
  match j, hj with
  | 0, _ => exact ⟨Ak, k.length, ck, by rw [cell_of_cells HW0.out]; rfl, by simp, by omega⟩
  | 1, _ => exact ⟨Av, v.length, cv, by rw [cell_of_cells HW0.out]; rfl, by simp, by omega⟩
  | 2, _ => exact ⟨G, v.length, cG, by rw [cell_of_cells HW0.out]; rfl, by simp, by omega⟩
 have HWW := Lib.hid hW
 clear hE8 hm8 hB8 hf8 hen henv hok8 hr8 hW hbW HEN HN7 HBE8 HFE8 HRk4 HRv4 HBk4 HBw4
 go_wp2_with fail
 rw [← HWW.out]
 go_loopg [78] 3 (fun gg iv wr => ∃ j : Nat, iv = .int .i64 (j : Int) ∧ j ≤ 3 ∧ 3 - j = gg ∧ Hid (WR (fun i => w.heap.size ≤ i ∧ (i < w3.heap.size ∨ w4.heap.size ≤ i) ∧ i ≠ w5.heap.size ∧ i ≠ p ∧ i ≠ b) W [(Ak, k.length), (Av, v.length), (G, v.length), (en.A, v.length)] wr))
 case atStart => exact ⟨0, rfl, by omega, by omega, HWR.out⟩
 case round =>
  obtain ⟨j, rfl, hj, rfl, HR⟩ := hrel
  by_cases hlt : j < 3
  ·obtain ⟨Aj, nj, cj, hc9, hmem, hnj⟩ := HROW.out j hlt
   have lr := HR.out.sl _ _ _ _ hc9
   have HM := Lib.hid hmem
   have dj : decide (j < 3) = true := decide_eq_true hlt
   have dj2 : decide ((j : Int) < 3) = true := decide_eq_true (by omega)
   have p0 : (0 : Int) ≤ (j : Int) := by omega
   have p1 : (j : Int) < 3 := by omega
   clear hc9 hmem
   go_wp2_with fail
   clear lr
   go_loopg [84] nj (fun gg iv wr => ∃ t : Nat, iv = .int .i64 (t : Int) ∧ t ≤ nj ∧ nj - t = gg ∧ Hid (WR (fun i => w.heap.size ≤ i ∧ (i < w3.heap.size ∨ w4.heap.size ≤ i) ∧ i ≠ w5.heap.size ∧ i ≠ p ∧ i ≠ b) W [(Ak, k.length), (Av, v.length), (G, v.length), (en.A, v.length)] wr))
   case atStart => exact ⟨0, rfl, by omega, by omega, HR.out⟩
   case round =>
    obtain ⟨t, rfl, ht, rfl, HQ⟩ := hrel
    by_cases hlt2 : t < nj
    ·obtain ⟨g, y, rfl, hc2, hf, hset⟩ := HQ.out.write HM.out hlt2
     obtain ⟨z, hz⟩ := incr y
     have HSET : Hid (WR (fun i => w.heap.size ≤ i ∧ (i < w3.heap.size ∨ w4.heap.size ≤ i) ∧ i ≠ w5.heap.size ∧ i ≠ p ∧ i ≠ b) W [(Ak, k.length), (Av, v.length), (G, v.length), (en.A, v.length)] (_root_.Go.World.setCell _ ⟨g, t, none⟩ (bv z))) := hset z
     have dk : decide (t < nj) = true := decide_eq_true hlt2
     have q0 : (0 : Int) ≤ (t : Int) := by omega
     have q1 : (t : Int) < (nj : Int) := by omega
     clear hset
     go_wp2_with fail
     go_roundg (nj - (t + 1))
     case measure => omega
     case rel => exact ⟨t + 1, by go_num, by omega, rfl, HSET⟩
    ·obtain rfl : t = nj := by omega
     have dk : decide (t < t) = false := decide_eq_false (by omega)
     go_wp2_with fail
     go_roundg (3 - (j + 1))
     case measure => omega
     case rel => exact ⟨j + 1, by go_num, by omega, rfl, HQ⟩
  ·obtain rfl : j = 3 := by omega
   clear hlt hj
   go_wp2_with fail
   go_loopg [97] 1 (fun gg iv wr => ∃ i : Nat, iv = .int .i64 (i : Int) ∧ i ≤ 1 ∧ 1 - i = gg ∧ Hid (WR (fun i => w.heap.size ≤ i ∧ (i < w3.heap.size ∨ w4.heap.size ≤ i) ∧ i ≠ w5.heap.size ∧ i ≠ p ∧ i ≠ b) W [(Ak, k.length), (Av, v.length), (G, v.length), (en.A, v.length)] wr))
   case atStart => exact ⟨0, rfl, by omega, by omega, HR.out⟩
   case round =>
    obtain ⟨i, rfl, hi, rfl, HR2⟩ := hrel
    by_cases hlt : i < 1
    ·obtain rfl : i = 0 := by omega
     have lr := HR2.out.sl _ _ _ _ HCW.out
     clear hlt hi
     go_wp2_with fail
     clear lr
     go_loopg [106] v.length (fun gg iv wr => ∃ t : Nat, iv = .int .i64 (t : Int) ∧ t ≤ v.length ∧ v.length - t = gg ∧ Hid (WR (fun i => w.heap.size ≤ i ∧ (i < w3.heap.size ∨ w4.heap.size ≤ i) ∧ i ≠ w5.heap.size ∧ i ≠ p ∧ i ≠ b) W [(Ak, k.length), (Av, v.length), (G, v.length), (en.A, v.length)] wr))
     case atStart => exact ⟨0, rfl, by omega, by omega, HR2.out⟩
     case round =>
      obtain ⟨t, rfl, ht, rfl, HQ⟩ := hrel
      by_cases hlt2 : t < v.length
      ·obtain ⟨g, y, heA, hc2, hf, hset⟩ := HQ.out.write (A := en.A) (n := v.length) (by simp) hlt2
       have lr := HQ.out.sl _ _ _ _ HCW.out
       rw [heA] at lr
       obtain ⟨z, hz⟩ := incr y
       have HSET : Hid (WR (fun i => w.heap.size ≤ i ∧ (i < w3.heap.size ∨ w4.heap.size ≤ i) ∧ i ≠ w5.heap.size ∧ i ≠ p ∧ i ≠ b) W [(Ak, k.length), (Av, v.length), (G, v.length), (en.A, v.length)] (_root_.Go.World.setCell _ ⟨g, t, none⟩ (bv z))) := hset z
       have dk : decide (t < v.length) = true := decide_eq_true hlt2
       have q0 : (0 : Int) ≤ (t : Int) := by omega
       have q1 : (t : Int) < (v.length : Int) := by omega
       clear hset heA
       go_wp2_with fail
       go_roundg (v.length - (t + 1))
       case measure => omega
       case rel => exact ⟨t + 1, by go_num, by omega, rfl, HSET⟩
      ·obtain rfl : t = v.length := by omega
       have dk : decide (v.length < v.length) = false := decide_eq_false (by omega)
       go_wp2_with fail
       go_roundg (1 - (0 + 1))
       case measure => omega
       case rel => exact ⟨1, by go_num, by omega, rfl, HQ⟩
    ·obtain rfl : i = 1 := by omega
     clear hlt hi
     have HX : Hid (RT M Tr w p b n [⟨k, v⟩] 1000 T wr) := by
      have hk := HR2.out.keep
      have hb := HB0W.out.trans (hk.below HB0W.out.size fun i h => h.1)
      obtain ⟨c', hc', hh'⟩ := HD.out.hs
      have hh4 := hh'.keep (Keep.of_below (L := fun _ => False) HB4W.out) fun h => h
      have hk4 : Keep (fun i => i < w3.heap.size) w4 wr := (Keep.of_below HB4W.out).step hk fun i h => h.2.1
      exact ⟨tv.keep (tv.keep HD.out.tr (Keep.of_below (L := fun _ => False) HB4W.out) fun h => h) hk (fun h => h.2.2.2.1 rfl), ⟨c', by omega, hh4.keep hk fun h => h.2.2.2.2 rfl⟩, HD.out.aft wr hk4 (nd.nil _ _), HIM.out, hb, HPW.out⟩
     have HEA : Hid (EA wr (some ⟨w5.heap.size, 0, none⟩) [⟨k, B, v, cB⟩]) := ea_one ⟨HKL.out, HCB.out, HBv.out.below HX.out.bel⟩ fun j x hx => HR2.out.keep.cellAt (range_below HRE.out HBVW.out j x hx) fun h => h.2.2.1 rfl
     have HHA := Lib.hid (tv.hasher wr p b n T HX.out.tr)
     unfold ptr at HHA
     clear HROW HWR HR HR2 HCW HC8 HW0
     go_wp2_with fail
     refine HHA.out.mono ?_
     rintro _ x1 ⟨rfl, hB⟩
     have HX1 := Lib.hid (HX.out.below nd tv hB)
     have HEA1 := Lib.hid (HEA.out.below hB)
     have HBI := Lib.hid HX1.out.bits
     clear hB HHA HX HEA
     go_wp2_with fail
     refine HBI.out.mono ?_
     rintro _ _ ⟨rfl, rfl⟩
     have qn : (n != n) = false := bne_self_eq_false n
     go_wp2_with fail
     refine (HAL.out x1 HX1.out.bel).mono ?_
     rintro _ x2 ⟨rfl, hB⟩
     have HX2 := Lib.hid (HX1.out.below nd tv hB)
     have HDF := Lib.hid (HX2.out.differs nd tv HV.out (by omega) (List.pairwise_singleton _ _) (cA := 1) (HEA1.out.below hB) rfl (by show v.length ≤ _; omega))
     clear hB HX1 HEA1 HBI qn
     go_wp2_with fail
     refine HDF.out.mono ?_
     rintro _ x3 ⟨rfl, hX3⟩
     have HX3 := Lib.hid hX3
     have HNO := Lib.hid (tv.node x3 p b n T hX3.tr)
     unfold ptr at HNO
     clear hX3 HDF HX2
     go_wp2_with fail
     refine HNO.out.mono ?_
     rintro _ x4 ⟨rfl, hB⟩
     have HX4 := Lib.hid (HX3.out.below nd tv hB)
     have HDG := Lib.hid (HX4.out.digest nd tv HV.out (by omega))
     obtain ⟨dg, hdg⟩ : ∃ dg, dg = digT n T.tr := ⟨_, rfl⟩
     have hgl : dg.length = 32 := by rw [hdg]; exact digT_len _ _
     have hq : ∀ x y w, eqA .eql 46 x y w (.agg (bA dg)) (.agg (bA dg)) = .ok (.value (.bool true)) w := fun x y w => by rw [eqDig dg dg hgl hgl, decide_eq_true rfl]
     rw [← hdg] at HDG
     have HGG := Lib.hid hdg
     obtain ⟨tvv, htv⟩ : ∃ tvv, tvv = T.val := ⟨_, rfl⟩
     rw [← htv] at HDG ⊢
     have HTV := Lib.hid htv
     clear hB hdg hgl HNO HX3 htv
     go_wp2_with fail
     refine HDG.out.mono ?_
     rintro _ x5 ⟨rfl, hX5⟩
     have HX5 := Lib.hid hX5
     have HRO := Lib.hid (HX5.out.root nd tv HV.out (by omega))
     rw [← HGG.out] at HRO
     clear hX5 HDG HX4
     go_wp2_with fail
     refine HRO.out.mono ?_
     rintro _ x6 ⟨rfl, hX6⟩
     have HX6 := Lib.hid hX6
     have HNO := Lib.hid (tv.node x6 p b n T hX6.tr)
     unfold ptr at HNO
     rw [← HTV.out] at HNO
     clear hX6 HRO HX5
     go_wp2_with fail
     refine HNO.out.mono ?_
     rintro _ x7 ⟨rfl, hB⟩
     have HX7 := Lib.hid (HX6.out.below nd tv hB)
     have HLN := Lib.hid (nd.len x7 n T HX7.out.ms (by rw [HIM.out.len]; simp))
     rw [HIM.out.len, ← HTV.out] at HLN
     clear hB HNO HX6
     go_wp2_with fail
     refine HLN.out.mono ?_
     rintro _ x8 ⟨rfl, hB⟩
     have HX8 := Lib.hid (HX7.out.below nd tv hB)
     clear hB HLN HX7
     go_wp2_with fail
     go_ret
     exact ⟨rfl, HX8.out.bel⟩
theorem shows13_w {M : World → Int → Tv → Prop} {Tr : World → Nat → Nat → Int → Tv → Prop} (nd : NdV M) (tv : TrV M Tr) (n : Int) (A : Option Addr) (cA : Nat) (k : List UInt8) (B : Option Addr) (cB : Nat) (v : List UInt8) (w : World) (hA : BA w A k) (hcA : k.length ≤ cA) (hB : BA w B v) (hcB : v.length ≤ cB) (hV : Vars w) (hE : Ft.ErrVar w) : Calls Tryz.prog 7 #[.int .i64 n, .slice A k.length cA, .slice B v.length cB] w (Aye w) := by
 by_cases h : 0 ≤ n ∧ n ≤ 256
 ·by_cases hr : rightK k v ≠ 0 ∨ 300 < v.length
  ·exact shows13_few nd tv n A cA k B cB v w hV hE h.1 h.2 hr
  ·exact shows13_in nd tv n A cA k B cB v w hA hcA hB hcB hV hE h.1 h.2 (Classical.not_not.1 fun e => hr (.inl e)) (by omega)
 ·exact shows13_out nd tv n A cA k B cB v w hV hE (by omega)
end Go.Proofs.YtkejfdgmdjfdoaaGreatDoor
