import Derived.BigQuiet
import Derived.Test.YtjgdindjimbfeaaGreatDoorCA
import Derived.Test.YtjgdindjimbfeaaGreatDoorMR
namespace Go.Proofs.YtjgdindjimbfeaaGreatDoor
set_option linter.unusedSimpArgs false
set_option linter.unusedVariables false
set_option maxHeartbeats 32000000
set_option maxRecDepth 100000
section
open Go.RowKit
theorem rpre_c (n : Int) (p : Pf) (hp : p.Ok) (A : Option Addr) (c : Nat) (k : List UInt8) (hk : k.length = 32) (w : World) (hA : DS w A p.sib) (hg : p.good) (hkd : p.kind = 0 ∨ p.kind = 1) :
  Calls Tryz.prog 80 #[.int .i64 n, .agg (pfC p (.slice A p.sib.length c)), .agg (bA k)] w fun e w' => ∃ A' c', e = .returned (.slice A' (preL n p k).length c') ∧ PS w' A' (preL n p k) ∧ Below w.heap.size w w' := by
 obtain ⟨X, hX⟩ : ∃ X, X = (w.alloc (.cells (pfC p (.slice A p.sib.length c)) 53)).alloc (.cells (bA k) 48) := ⟨_, rfl⟩
 have hB : Below w.heap.size w X := by rw [hX]; exact Bt.two_below _ _ _
 have hP : PfAt X w.heap.size p (.slice A p.sib.length c) := by rw [hX]; exact (PfAt.one w p _).below (Bt.one_below _ _) (by simp)
 have HKR : Hid (RowB X (w.heap.size + 1) 48 k) := by show RowB _ _ _ _; rw [hX]; exact heap_alloc2_new w _ _
 obtain ⟨D, hD⟩ : ∃ D : Nat, D = p.dep.toNat := ⟨_, rfl⟩
 have hdep : p.dep = (D : Int) := by have := hg.1; omega
 have HD2 : Hid (D ≤ 256) := by have := hg.2.1; show D ≤ 256; omega
 obtain ⟨X0, hX0⟩ : ∃ X0, X0 = sidX n p := ⟨_, rfl⟩
 have HXN : Hid (X0.length = D) := by show _ = _; rw [hX0, hD]; exact expL_len ..
 have HXS : Hid (∀ s ∈ X0, s.length = 32) := by rw [hX0]; exact expL_mem hg.2.2.2.1 hp.sib (by have := hg.2.1; have := hg.1; omega)
 have HEX := rexpand_c n p hp A c X (hA.below hB) hg
 rw [show expL n p.bm p.sib p.dep.toNat = X0 from hX0.symm] at HEX
 have HEX := Lib.hid HEX
 have ld := hP.ld hp
 have HEL : Hid ((endP p).length ≤ 65) := endP_len hp
 have HPL : Hid (preL n p k = preB n (endP p) X0 k D D) := by show _ = _; rw [hX0, hD]; rfl
 rw [hX] at ld
 have HX := Lib.hid hX
 have HB0 := Lib.hid hB
 have HP := Lib.hid hP
 have HPO := Lib.hid hp
 have HK := Lib.hid hk
 have HDP := Lib.hid hdep
 have HKD := Lib.hid hkd
 rw [HPL.out]
 have hw0 : IntKind.i64.wrap ((D : Int) - 1) = (D : Int) - 1 := Bt.wrap_inr (by omega) (by have := HD2.out; omega)
 clear hB hP hp hA hX hg hD hdep hX0 hk hkd
 go_enter Tryz.func80, Tryz.ntmps80
 go_wp2_with fail
 rw [← HX.out]
 clear HX ld
 refine HEX.out.mono ?_
 rintro _ w1 ⟨vx, rfl, hOX, hb1⟩
 obtain ⟨AX, cX, rfl, hDX, _⟩ := hOX.ds HXS.out
 rw [HXN.out]
 have HDW := Lib.hid hDX
 have HB1 := Lib.hid hb1
 have HP1 := Lib.hid (HP.out.below hb1 HP.out.lt)
 clear hOX hDX hb1 HEX
 rcases HKD.out with h0 | h1
 ·have HE : Hid (endP p = [3]) := by show _ = _; unfold endP; rw [if_neg (by omega)]; rfl
  obtain ⟨W, hW⟩ : ∃ W, W = w1.alloc (.cells #[.int .u8 3] 5) := ⟨_, rfl⟩
  have hbW : Below w1.heap.size w1 W := by rw [hW]; exact Bt.one_below _ _
  have HO6 : Hid (OwnB W w1.heap.size (.slice (some ⟨w1.heap.size, 0, none⟩) 1 1) (endP p)) := by show OwnB _ _ _ _; rw [hW, HE.out]; exact own_made w1 3
  have HBW0 : Hid (Below X.heap.size X W) := HB1.out.trans (hbW.mono HB1.out.size)
  have HBW01 : Hid (Below w1.heap.size w1 W) := hbW
  have lk0 := (HP1.out.below hbW HP1.out.lt).kind
  rw [h0] at lk0
  have HWS : Hid (w1.heap.size + 1 = W.heap.size) := by show _ = _; rw [hW]; simp
  have HLE : Hid ((endP p).length = 1) := by show _ = _; rw [HE.out]; rfl
  have HW := Lib.hid hW
  rw [hW] at lk0
  clear hbW hW h0
  obtain ⟨A6, c6, hv6, hc6, hA6⟩ := HO6.out.any
  rw [HLE.out] at hv6 hc6
  cases hv6
  obtain ⟨Y, hY⟩ : ∃ Y, Y = W.alloc (.cells #[(.slice (some ⟨w1.heap.size, 0, none⟩) 1 1)] 22) := ⟨_, rfl⟩
  have hbY : Below W.heap.size W Y := by rw [hY]; exact Bt.one_below _ _
  have HY0 : Hid (PS Y (some ⟨w1.heap.size + 1, 0, none⟩) (preB n (endP p) X0 k D 0)) := by
   show PS _ _ _
   rw [HWS.out]
   intro i l hi
   cases i with
   | zero =>
    cases hi
    refine ⟨_, _, (.slice (some ⟨w1.heap.size, 0, none⟩) 1 1), rfl, ?_, _, _, by rw [HLE.out], hA6.below hbY, by rw [HLE.out]; exact hc6⟩
    rw [hY, cell_of_cells (heap_alloc_new W _)]; rfl
   | succ i => simp [preB] at hi
  have HBX : Hid (Below X.heap.size X Y) := HBW0.out.trans (hbY.mono HBW0.out.size)
  have HBW : Hid (Below w.heap.size w Y) := HB0.out.trans (HBX.out.mono HB0.out.size)
  have HDX : Hid (DS Y AX X0) := HDW.out.below (HBW01.out.trans (hbY.mono HBW01.out.size))
  have ldp := ((HP.out.below HBW0.out HP.out.lt).below hbY (Nat.lt_of_lt_of_le HP.out.lt HBW0.out.size)).dep
  rw [HDP.out] at ldp
  have HY := Lib.hid hY
  rw [hY, HW.out] at ldp
  clear hc6 hA6 hbY hY
  go_wp2_with fail
  rw [← HW.out]
  rw [← HY.out]
  clear ldp HY lk0 HW
  go_loopg [9, 10, 11, 12] D (fun gg out dv _ _ wr => ∃ (i : Nat) (Ao : Option Addr) (co : Nat), dv = .int .i64 ((D : Int) - 1 - (i : Int)) ∧ i ≤ D ∧ D - i = gg ∧ out = .slice Ao (i + 1) co ∧ Hid (PS wr Ao (preB n (endP p) X0 k D i)) ∧ Below Y.heap.size Y wr)
  case atStart => exact ⟨0, _, _, by congr 1; omega, by omega, by omega, rfl, HY0, Below.refl _ _⟩
  case round =>
   obtain ⟨i, Ao, co, rfl, hi, rfl, rfl, HPS, hb⟩ := hrel
   have HBY := Lib.hid hb
   clear hb
   by_cases hlt : i < D
   ·obtain ⟨d, hd⟩ : ∃ d, d = D - 1 - i := ⟨_, rfl⟩
    have HDI := Lib.hid hd
    have HDD : Hid ((D : Int) - 1 - ((i + 1 : Nat) : Int) = (d : Int) - 1) := by show _ = _; omega
    rw [show (D : Int) - 1 - (i : Int) = (d : Int) by omega]
    have hdD : d < D := by omega
    obtain ⟨x, hx⟩ : ∃ x, X0[d]? = some x := ⟨_, List.getElem?_eq_getElem (by rw [HXN.out]; exact hdD)⟩
    have HXD : Hid (X0.getD d [] = x) := by show _ = _; rw [List.getD_eq_getElem?_getD, hx]; rfl
    obtain ⟨hxl, g5, o5, rfl, hrx⟩ := (HDX.out.below HBY.out) d x hx
    have HXL := Lib.hid hxl
    have HXR := Lib.hid hrx
    obtain ⟨g1, o1, v1, rfl, hc1, A1, c1, rfl, hba1, hl1⟩ := HPS.out 0 _ (show (preB n (endP p) X0 k D i)[0]? = some (preF n (endP p) X0 k D i) by have := preB_at n (endP p) X0 k D i i (Nat.le_refl _); rwa [Nat.sub_self] at this)
    rw [Nat.add_zero] at hc1
    have HSUM := Lib.hid (rdig_c n A1 c1 (preF n (endP p) X0 k D i) wr hba1 (by have := preF_len (n := n) (k := k) HEL.out HXS.out (by rw [HXN.out]; exact Nat.le_refl D) i (by omega); omega))
    obtain ⟨dg, hdg⟩ : ∃ dg, dg = digL n (preF n (endP p) X0 k D i) := ⟨_, rfl⟩
    have HDG := Lib.hid hdg
    have HDL : Hid (dg.length = 32) := by show _ = _; rw [hdg]; exact dig_len _ _
    rw [← hdg] at HSUM
    have hw1 : IntKind.i64.wrap ((d : Int) - 1) = (d : Int) - 1 := Bt.wrap_inr (by omega) (by have := HD2.out; omega)
    have z0 : (0 : Int) < ((i + 1 : Nat) : Int) := by omega
    have z1 : (0 : Int) < (i : Int) + 1 := by omega
    have e0 : decide ((0 : Int) ≤ (d : Int)) = true := decide_eq_true (by omega)
    clear hd hx hxl hrx hdg hba1 hl1
    go_wp2_with fail
    refine HSUM.out.mono ?_
    rintro _ w2 ⟨rfl, hb2⟩
    have HB2 := Lib.hid hb2
    have st := stA_new (t := 47) w2 (bA z26) (bA dg) (by rw [bA_size, HDL.out]; exact info26) (by rw [bA_size, bA_size, HDL.out]; rfl) (bA_one _)
    obtain ⟨w3, hw3⟩ : ∃ w3, w3 = w2.alloc (.cells (bA dg) 47) := ⟨_, rfl⟩
    have hb3 : Below w2.heap.size w2 w3 := by rw [hw3]; exact Bt.one_below _ _
    have HDR : Hid (w3.heap[w2.heap.size]? = some (.cells (bA dg) 47 (0, 0))) := by show _ = _; rw [hw3]; exact heap_alloc_new w2 _
    have HB3 : Hid (Below wr.heap.size wr w3) := HB2.out.trans (hb3.mono HB2.out.size)
    have LD : Hid (∀ q, Below w3.heap.size w3 q → ldA 47 q (.pointer (some ⟨w2.heap.size, 0, none⟩)) = .ok (.value (.agg (bA dg))) q) := fun q h => RowB.ldDig (show q.heap[w2.heap.size]? = _ by rw [h.block _ (lt_of_heap HDR.out)]; exact HDR.out) HDL.out
    have LX : Hid (∀ q, Below w3.heap.size w3 q → ldA 47 q (.pointer (some ⟨g5, o5 + d * 32, none⟩)) = .ok (.value (.agg (bA x))) q) := fun q h => ldDig (range_below (range_below HXR.out HB3.out) h) HXL.out
    have j0 : (0 : Int) ≤ (d : Int) := by omega
    have j1 : (d : Int) < (D : Int) := by omega
    rw [← hw3] at st
    have HW3 := Lib.hid hw3
    clear hb2 hb3 hw3 HSUM hc1
    go_wp2_with fail
    refine region_heldT 6 (fun q => Below w3.heap.size w3 q) (by kernel_rfl) ?_
    have hHeld : Below w3.heap.size w3 w3.drew := (Below.refl _ _).drew
    refine HeldT.take (i := 0) (oi := { dst := some 37, op := .load _ (.tmp 11), .. }) (v := ?_) rfl (by kernel_rfl) (by kernel_rfl) (by kernel_rfl) (by kernel_rfl) (fun _ _ _ h => h) (Or.inl ⟨by rfl, ?_⟩) (by assumption) ?_
    rotate_left 1
    ·intro v hSv
     have hv1 := LD.out v hSv
     clear hSv
     go_simp
     try with_reducible rfl
    try simp only [Act.put, x_A, x_0, x_1]
    refine HeldT.take (i := 1) (oi := { dst := some 38, op := .move (.tmp 7), .. }) (v := ?_) rfl (by kernel_rfl) (by kernel_rfl) (by kernel_rfl) (by kernel_rfl) (fun _ _ _ h => h) (Or.inl ⟨by rfl, ?_⟩) (by assumption) ?_
    rotate_left 1
    ·intro v hSv
     clear hSv
     go_simp
     try with_reducible rfl
    try simp only [Act.put, x_A, x_0, x_1]
    refine HeldT.take (i := 2) (oi := { dst := some 39, op := .move (.tmp 10), .. }) (v := ?_) rfl (by kernel_rfl) (by kernel_rfl) (by kernel_rfl) (by kernel_rfl) (fun _ _ _ h => h) (Or.inl ⟨by rfl, ?_⟩) (by assumption) ?_
    rotate_left 1
    ·intro v hSv
     clear hSv
     go_simp
     try with_reducible rfl
    try simp only [Act.put, x_A, x_0, x_1]
    refine HeldT.take (i := 3) (oi := { dst := some 40, op := .indexAddr _ (.tmp 38) (.tmp 39), .. }) (v := ?_) rfl (by kernel_rfl) (by kernel_rfl) (by kernel_rfl) (by kernel_rfl) (fun _ _ _ h => h) (Or.inl ⟨by rfl, ?_⟩) (by assumption) ?_
    rotate_left 1
    ·intro v hSv
     clear hSv
     go_simp
     try with_reducible rfl
    try simp only [Act.put, x_A, x_0, x_1]
    refine HeldT.take (i := 4) (oi := { dst := some 41, op := .load _ (.tmp 40), .. }) (v := ?_) rfl (by kernel_rfl) (by kernel_rfl) (by kernel_rfl) (by kernel_rfl) (fun _ _ _ h => h) (Or.inl ⟨by rfl, ?_⟩) (by assumption) ?_
    rotate_left 1
    ·intro v hSv
     have hv1 := LX.out v hSv
     clear hSv
     go_simp
     try with_reducible rfl
    try simp only [Act.put, x_A, x_0, x_1]
    refine HeldT.one (i := 5) (o := { dst := some 42, op := .call _, .. }) (by kernel_rfl) rfl rfl (fun K hK => ?_)
    go_wp2_with fail
    refine (rnode_c dg x HDL.out HXL.out _).mono ?_
    rintro e y9 ⟨v9, rfl, hO, hb⟩
    have hq9 : Below w3.heap.size w3 y9 := ((Below.refl _ _).drew).trans (hb.mono (by simp))
    have HQ9 := Lib.hid hq9
    have HO9 := Lib.hid hO
    clear hb hO
    go_wp2_with fail
    refine hK.out _ _ (fun _ => hq9) (fun hS => ?_)
    have hHeld := hS (by decide)
    clear hS hK K
    try simp only [Act.put, x_A, x_0, x_1]
    clear hq9
    refine HeldT.one (i := 6) (o := { dst := some 12, op := .assign (.tmp 42), .. }) (by kernel_rfl) rfl rfl (fun K hK => ?_)
    go_wp2_with fail
    refine hK.out _ _ (fun h => absurd rfl h) (fun _ => ?_)
    clear hK K
    refine HeldT.done (by kernel_rfl) ?_ _
    have HBQ9 : Hid (Below wr.heap.size wr y9) := HB3.out.trans (HQ9.out.mono HB3.out.size)
    have HR9 : Hid (y9.heap[w2.heap.size]? = some (.cells (bA dg) 47 (0, 0))) := by show _ = _; rw [HQ9.out.block _ (lt_of_heap HDR.out)]; exact HDR.out
    have lk := (RowB.below (HKR.out) (HBX.out.trans ((HBY.out.trans (HBQ9.out.mono HBY.out.size)).mono HBX.out.size))).ldKey HK.out
    have HBC := Lib.hid (bitK_c k HK.out (d : Int) y9)
    go_wp2_with fail
    refine HBC.out.mono ?_
    rintro _ w4 ⟨rfl, hb4⟩
    have HBQ4 : Hid (Below wr.heap.size wr w4) := HBQ9.out.trans (hb4.mono HBQ9.out.size)
    have HO4 := Lib.hid (HO9.out.below hb4)
    have HR4 : Hid (w4.heap[w2.heap.size]? = some (.cells (bA dg) 47 (0, 0))) := by show _ = _; rw [hb4.block _ (lt_of_heap HR9.out)]; exact HR9.out
    clear hb4 lk HBC
    rcases bitK_01 k d (by have := HD2.out; omega) with hbit | hbit
    ·rw [hbit]
     have HSN : Hid (nodeL dg x = stepN k d dg x) := by show _ = _; unfold stepN; rw [if_neg (by omega)]
     rw [HSN.out] at HO4
     clear hbit
     obtain ⟨A7, c7, hv7, hc7, hA7⟩ := HO4.out.any
     subst hv7
     have HH7 : Hid (Hd16 w4 (.slice A7 (stepN k d dg x).length c7) (stepN k d dg x)) := ⟨A7, c7, rfl, hA7, hc7⟩
     have HPQ : Hid (PS w4 (some ⟨g1, o1, none⟩) (preB n (endP p) X0 k D i)) := HPS.out.below HBQ4.out
     obtain ⟨ln, hln⟩ : ∃ ln, ln = (stepN k d dg x).length := ⟨_, rfl⟩
     rw [← hln] at HH7 ⊢
     have HLN := Lib.hid hln
     clear hA7 hc7 hln
     go_wp2_with (at_builtin; refine wpList_consP rfl _ _ rfl (stepN k d dg x) rfl HH7.out (some ⟨g1, o1, none⟩) co (preB n (endP p) X0 k D i) (by rw [preB_len]; rfl) HPQ.out (by intro h; have := preB_len n (endP p) X0 k D i; rw [h] at this; cases this) (by rw [preB_len]; have := HD2.out; omega) ?_; intro A8 c8 w8 hP8 hb8)
     rw [preB_len]
     have HP8 : Hid (PS w8 A8 (preB n (endP p) X0 k D (i + 1))) := by
      show PS _ _ _
      rw [show preB n (endP p) X0 k D (i + 1) = stepN k d dg x :: preB n (endP p) X0 k D i by
       show preF n (endP p) X0 k D (i + 1) :: _ = _
       show stepN k (D - 1 - i) (digL n (preF n (endP p) X0 k D i)) (X0.getD (D - 1 - i) []) :: _ = _
       rw [← HDI.out, ← HDG.out, HXD.out]]
      exact hP8
     have HB8 : Hid (Below Y.heap.size Y w8) := (HBY.out.trans (HBQ4.out.mono HBY.out.size)).trans (hb8.mono (Nat.le_trans HBY.out.size HBQ4.out.size))
     clear hP8 hb8
     go_wp2_with fail
     go_roundg (D - (i + 1))
     case measure => omega
     case rel => exact ⟨i + 1, A8, c8, by rw [HDD.out], by omega, rfl, rfl, HP8.out, HB8.out⟩
    ·rw [hbit]
     have HSN : Hid (nodeL x dg = stepN k d dg x) := by show _ = _; unfold stepN; rw [if_pos hbit]
     have LD4 : Hid (∀ q, Below w4.heap.size w4 q → ldA 47 q (.pointer (some ⟨w2.heap.size, 0, none⟩)) = .ok (.value (.agg (bA dg))) q) := fun q h => RowB.ldDig (show q.heap[w2.heap.size]? = _ by rw [h.block _ (lt_of_heap HR4.out)]; exact HR4.out) HDL.out
     have LX4 : Hid (∀ q, Below w4.heap.size w4 q → ldA 47 q (.pointer (some ⟨g5, o5 + d * 32, none⟩)) = .ok (.value (.agg (bA x))) q) := fun q h => ldDig (range_below (range_below HXR.out HBQ4.out) h) HXL.out
     clear hbit
     go_wp2_with fail
     refine region_heldT 6 (fun q => Below w4.heap.size w4 q) (by kernel_rfl) ?_
     have hHeld : Below w4.heap.size w4 w4.drew := (Below.refl _ _).drew
     refine HeldT.take (i := 0) (oi := { dst := some 47, op := .move (.tmp 7), .. }) (v := ?_) rfl (by kernel_rfl) (by kernel_rfl) (by kernel_rfl) (by kernel_rfl) (fun _ _ _ h => h) (Or.inl ⟨by rfl, ?_⟩) (by assumption) ?_
     rotate_left 1
     ·intro v hSv
      clear hSv
      go_simp
      try with_reducible rfl
     try simp only [Act.put, x_A, x_0, x_1]
     refine HeldT.take (i := 1) (oi := { dst := some 48, op := .move (.tmp 10), .. }) (v := ?_) rfl (by kernel_rfl) (by kernel_rfl) (by kernel_rfl) (by kernel_rfl) (fun _ _ _ h => h) (Or.inl ⟨by rfl, ?_⟩) (by assumption) ?_
     rotate_left 1
     ·intro v hSv
      clear hSv
      go_simp
      try with_reducible rfl
     try simp only [Act.put, x_A, x_0, x_1]
     refine HeldT.take (i := 2) (oi := { dst := some 49, op := .indexAddr _ (.tmp 47) (.tmp 48), .. }) (v := ?_) rfl (by kernel_rfl) (by kernel_rfl) (by kernel_rfl) (by kernel_rfl) (fun _ _ _ h => h) (Or.inl ⟨by rfl, ?_⟩) (by assumption) ?_
     rotate_left 1
     ·intro v hSv
      clear hSv
      go_simp
      try with_reducible rfl
     try simp only [Act.put, x_A, x_0, x_1]
     refine HeldT.take (i := 3) (oi := { dst := some 50, op := .load _ (.tmp 49), .. }) (v := ?_) rfl (by kernel_rfl) (by kernel_rfl) (by kernel_rfl) (by kernel_rfl) (fun _ _ _ h => h) (Or.inl ⟨by rfl, ?_⟩) (by assumption) ?_
     rotate_left 1
     ·intro v hSv
      have hv1 := LX4.out v hSv
      clear hSv
      go_simp
      try with_reducible rfl
     try simp only [Act.put, x_A, x_0, x_1]
     refine HeldT.take (i := 4) (oi := { dst := some 51, op := .load _ (.tmp 11), .. }) (v := ?_) rfl (by kernel_rfl) (by kernel_rfl) (by kernel_rfl) (by kernel_rfl) (fun _ _ _ h => h) (Or.inl ⟨by rfl, ?_⟩) (by assumption) ?_
     rotate_left 1
     ·intro v hSv
      have hv1 := LD4.out v hSv
      clear hSv
      go_simp
      try with_reducible rfl
     try simp only [Act.put, x_A, x_0, x_1]
     refine HeldT.one (i := 5) (o := { dst := some 52, op := .call _, .. }) (by kernel_rfl) rfl rfl (fun K hK => ?_)
     go_wp2_with fail
     refine (rnode_c x dg HXL.out HDL.out _).mono ?_
     rintro e y5 ⟨v5, rfl, hO, hb⟩
     have hq5 : Below w4.heap.size w4 y5 := ((Below.refl _ _).drew).trans (hb.mono (by simp))
     have HQ5 := Lib.hid hq5
     have HO5 := Lib.hid hO
     clear hb hO
     go_wp2_with fail
     refine hK.out _ _ (fun _ => hq5) (fun hS => ?_)
     have hHeld := hS (by decide)
     clear hS hK K
     try simp only [Act.put, x_A, x_0, x_1]
     clear hq5
     refine HeldT.one (i := 6) (o := { dst := some 12, op := .assign (.tmp 52), .. }) (by kernel_rfl) rfl rfl (fun K hK => ?_)
     go_wp2_with fail
     refine hK.out _ _ (fun h => absurd rfl h) (fun _ => ?_)
     clear hK K
     refine HeldT.done (by kernel_rfl) ?_ _
     have HBQ5 : Hid (Below wr.heap.size wr y5) := HBQ4.out.trans (HQ5.out.mono HBQ4.out.size)
     rw [HSN.out] at HO5
     obtain ⟨A7, c7, hv7, hc7, hA7⟩ := HO5.out.any
     subst hv7
     have HH7 : Hid (Hd16 y5 (.slice A7 (stepN k d dg x).length c7) (stepN k d dg x)) := ⟨A7, c7, rfl, hA7, hc7⟩
     have HPQ : Hid (PS y5 (some ⟨g1, o1, none⟩) (preB n (endP p) X0 k D i)) := HPS.out.below HBQ5.out
     obtain ⟨ln, hln⟩ : ∃ ln, ln = (stepN k d dg x).length := ⟨_, rfl⟩
     rw [← hln] at HH7 ⊢
     have HLN := Lib.hid hln
     clear hA7 hc7 hln
     go_wp2_with (at_builtin; refine wpList_consP rfl _ _ rfl (stepN k d dg x) rfl HH7.out (some ⟨g1, o1, none⟩) co (preB n (endP p) X0 k D i) (by rw [preB_len]; rfl) HPQ.out (by intro h; have := preB_len n (endP p) X0 k D i; rw [h] at this; cases this) (by rw [preB_len]; have := HD2.out; omega) ?_; intro A8 c8 w8 hP8 hb8)
     rw [preB_len]
     have HP8 : Hid (PS w8 A8 (preB n (endP p) X0 k D (i + 1))) := by
      show PS _ _ _
      rw [show preB n (endP p) X0 k D (i + 1) = stepN k d dg x :: preB n (endP p) X0 k D i by
       show preF n (endP p) X0 k D (i + 1) :: _ = _
       show stepN k (D - 1 - i) (digL n (preF n (endP p) X0 k D i)) (X0.getD (D - 1 - i) []) :: _ = _
       rw [← HDI.out, ← HDG.out, HXD.out]]
      exact hP8
     have HB8 : Hid (Below Y.heap.size Y w8) := (HBY.out.trans (HBQ5.out.mono HBY.out.size)).trans (hb8.mono (Nat.le_trans HBY.out.size HBQ5.out.size))
     clear hP8 hb8
     go_wp2_with fail
     go_roundg (D - (i + 1))
     case measure => omega
     case rel => exact ⟨i + 1, A8, c8, by rw [HDD.out], by omega, rfl, rfl, HP8.out, HB8.out⟩
   ·obtain rfl : i = D := by omega
    rw [show (i : Int) - 1 - (i : Int) = -1 by omega]
    have e0 : decide ((0 : Int) ≤ -1) = false := by decide
    go_wp2_with fail
    go_ret
    refine ⟨Ao, co, by rw [preB_len]; rfl, HPS.out, ?_⟩
    exact HBW.out.trans (HBY.out.mono HBW.out.size)
 ·have HE : Hid (endP p = leafL (p.lf.take 32) (p.lf.drop 32)) := by show _ = _; unfold endP; rw [if_pos h1, leaf_lf]
  have lk1 := HP1.out.kind
  rw [h1] at lk1
  obtain ⟨W1, hW1⟩ : ∃ W, W = w1.alloc (.cells #[.int .u8 3] 5) := ⟨_, rfl⟩
  have hbW : Below w1.heap.size w1 W1 := by rw [hW1]; exact Bt.one_below _ _
  have hPW := HP1.out.below hbW HP1.out.lt
  have lk0 := hPW.kind
  rw [h1] at lk0
  have lf0 := hPW.leaf HPO.out
  have HLF := rleaf_c (p.lf.take 32) (p.lf.drop 32) (by rw [List.length_take, HPO.out.lf]; rfl) (by rw [List.length_drop, HPO.out.lf]) W1
  rw [List.take_append_drop, ← HE.out] at HLF
  have HLF := Lib.hid HLF
  have HBW1 := Lib.hid hbW
  rw [hW1] at lk0 lf0
  have HW := Lib.hid hW1
  clear hbW hW1 h1 hPW lk1
  go_wp2_with fail
  rw [← HW.out]
  clear lk0 lf0 HW
  refine HLF.out.mono ?_
  rintro _ W ⟨v6, rfl, hO6, hb6⟩
  have HO6 := Lib.hid hO6
  have HBW01 : Hid (Below w1.heap.size w1 W) := HBW1.out.trans (hb6.mono HBW1.out.size)
  have HBW0 : Hid (Below X.heap.size X W) := HB1.out.trans (HBW01.out.mono HB1.out.size)
  clear hO6 hb6 HLF
  obtain ⟨A6, c6, hv6, hc6, hA6⟩ := HO6.out.any
  obtain ⟨el, hel⟩ : ∃ el, el = (endP p).length := ⟨_, rfl⟩
  rw [← hel] at hv6 hc6
  subst hv6
  obtain ⟨Y, hY⟩ : ∃ Y, Y = W.alloc (.cells #[(.slice A6 el c6)] 22) := ⟨_, rfl⟩
  have hbY : Below W.heap.size W Y := by rw [hY]; exact Bt.one_below _ _
  have HY0 : Hid (PS Y (some ⟨W.heap.size, 0, none⟩) (preB n (endP p) X0 k D 0)) := by
   show PS _ _ _
   intro i l hi
   cases i with
   | zero =>
    cases hi
    refine ⟨_, _, (.slice A6 el c6), rfl, ?_, _, _, by rw [hel], hA6.below hbY, by rw [← hel]; exact hc6⟩
    rw [hY, cell_of_cells (heap_alloc_new W _)]; rfl
   | succ i => simp [preB] at hi
  have HBX : Hid (Below X.heap.size X Y) := HBW0.out.trans (hbY.mono HBW0.out.size)
  have HBW : Hid (Below w.heap.size w Y) := HB0.out.trans (HBX.out.mono HB0.out.size)
  have HDX : Hid (DS Y AX X0) := HDW.out.below (HBW01.out.trans (hbY.mono HBW01.out.size))
  have ldp := ((HP.out.below HBW0.out HP.out.lt).below hbY (Nat.lt_of_lt_of_le HP.out.lt HBW0.out.size)).dep
  rw [HDP.out] at ldp
  have HY := Lib.hid hY
  rw [hY] at ldp
  clear hc6 hA6 hbY hY hel
  go_wp2_with fail
  rw [← HY.out]
  clear ldp HY
  go_loopg [9, 10, 11, 12] D (fun gg out dv _ _ wr => ∃ (i : Nat) (Ao : Option Addr) (co : Nat), dv = .int .i64 ((D : Int) - 1 - (i : Int)) ∧ i ≤ D ∧ D - i = gg ∧ out = .slice Ao (i + 1) co ∧ Hid (PS wr Ao (preB n (endP p) X0 k D i)) ∧ Below Y.heap.size Y wr)
  case atStart => exact ⟨0, _, _, by congr 1; omega, by omega, by omega, rfl, HY0, Below.refl _ _⟩
  case round =>
   obtain ⟨i, Ao, co, rfl, hi, rfl, rfl, HPS, hb⟩ := hrel
   have HBY := Lib.hid hb
   clear hb
   by_cases hlt : i < D
   ·obtain ⟨d, hd⟩ : ∃ d, d = D - 1 - i := ⟨_, rfl⟩
    have HDI := Lib.hid hd
    have HDD : Hid ((D : Int) - 1 - ((i + 1 : Nat) : Int) = (d : Int) - 1) := by show _ = _; omega
    rw [show (D : Int) - 1 - (i : Int) = (d : Int) by omega]
    have hdD : d < D := by omega
    obtain ⟨x, hx⟩ : ∃ x, X0[d]? = some x := ⟨_, List.getElem?_eq_getElem (by rw [HXN.out]; exact hdD)⟩
    have HXD : Hid (X0.getD d [] = x) := by show _ = _; rw [List.getD_eq_getElem?_getD, hx]; rfl
    obtain ⟨hxl, g5, o5, rfl, hrx⟩ := (HDX.out.below HBY.out) d x hx
    have HXL := Lib.hid hxl
    have HXR := Lib.hid hrx
    obtain ⟨g1, o1, v1, rfl, hc1, A1, c1, rfl, hba1, hl1⟩ := HPS.out 0 _ (show (preB n (endP p) X0 k D i)[0]? = some (preF n (endP p) X0 k D i) by have := preB_at n (endP p) X0 k D i i (Nat.le_refl _); rwa [Nat.sub_self] at this)
    rw [Nat.add_zero] at hc1
    have HSUM := Lib.hid (rdig_c n A1 c1 (preF n (endP p) X0 k D i) wr hba1 (by have := preF_len (n := n) (k := k) HEL.out HXS.out (by rw [HXN.out]; exact Nat.le_refl D) i (by omega); omega))
    obtain ⟨dg, hdg⟩ : ∃ dg, dg = digL n (preF n (endP p) X0 k D i) := ⟨_, rfl⟩
    have HDG := Lib.hid hdg
    have HDL : Hid (dg.length = 32) := by show _ = _; rw [hdg]; exact dig_len _ _
    rw [← hdg] at HSUM
    have hw1 : IntKind.i64.wrap ((d : Int) - 1) = (d : Int) - 1 := Bt.wrap_inr (by omega) (by have := HD2.out; omega)
    have z0 : (0 : Int) < ((i + 1 : Nat) : Int) := by omega
    have z1 : (0 : Int) < (i : Int) + 1 := by omega
    have e0 : decide ((0 : Int) ≤ (d : Int)) = true := decide_eq_true (by omega)
    clear hd hx hxl hrx hdg hba1 hl1
    go_wp2_with fail
    refine HSUM.out.mono ?_
    rintro _ w2 ⟨rfl, hb2⟩
    have HB2 := Lib.hid hb2
    have st := stA_new (t := 47) w2 (bA z26) (bA dg) (by rw [bA_size, HDL.out]; exact info26) (by rw [bA_size, bA_size, HDL.out]; rfl) (bA_one _)
    obtain ⟨w3, hw3⟩ : ∃ w3, w3 = w2.alloc (.cells (bA dg) 47) := ⟨_, rfl⟩
    have hb3 : Below w2.heap.size w2 w3 := by rw [hw3]; exact Bt.one_below _ _
    have HDR : Hid (w3.heap[w2.heap.size]? = some (.cells (bA dg) 47 (0, 0))) := by show _ = _; rw [hw3]; exact heap_alloc_new w2 _
    have HB3 : Hid (Below wr.heap.size wr w3) := HB2.out.trans (hb3.mono HB2.out.size)
    have LD : Hid (∀ q, Below w3.heap.size w3 q → ldA 47 q (.pointer (some ⟨w2.heap.size, 0, none⟩)) = .ok (.value (.agg (bA dg))) q) := fun q h => RowB.ldDig (show q.heap[w2.heap.size]? = _ by rw [h.block _ (lt_of_heap HDR.out)]; exact HDR.out) HDL.out
    have LX : Hid (∀ q, Below w3.heap.size w3 q → ldA 47 q (.pointer (some ⟨g5, o5 + d * 32, none⟩)) = .ok (.value (.agg (bA x))) q) := fun q h => ldDig (range_below (range_below HXR.out HB3.out) h) HXL.out
    have j0 : (0 : Int) ≤ (d : Int) := by omega
    have j1 : (d : Int) < (D : Int) := by omega
    rw [← hw3] at st
    have HW3 := Lib.hid hw3
    clear hb2 hb3 hw3 HSUM hc1
    go_wp2_with fail
    refine region_heldT 6 (fun q => Below w3.heap.size w3 q) (by kernel_rfl) ?_
    have hHeld : Below w3.heap.size w3 w3.drew := (Below.refl _ _).drew
    refine HeldT.take (i := 0) (oi := { dst := some 37, op := .load _ (.tmp 11), .. }) (v := ?_) rfl (by kernel_rfl) (by kernel_rfl) (by kernel_rfl) (by kernel_rfl) (fun _ _ _ h => h) (Or.inl ⟨by rfl, ?_⟩) (by assumption) ?_
    rotate_left 1
    ·intro v hSv
     have hv1 := LD.out v hSv
     clear hSv
     go_simp
     try with_reducible rfl
    try simp only [Act.put, x_A, x_0, x_1]
    refine HeldT.take (i := 1) (oi := { dst := some 38, op := .move (.tmp 7), .. }) (v := ?_) rfl (by kernel_rfl) (by kernel_rfl) (by kernel_rfl) (by kernel_rfl) (fun _ _ _ h => h) (Or.inl ⟨by rfl, ?_⟩) (by assumption) ?_
    rotate_left 1
    ·intro v hSv
     clear hSv
     go_simp
     try with_reducible rfl
    try simp only [Act.put, x_A, x_0, x_1]
    refine HeldT.take (i := 2) (oi := { dst := some 39, op := .move (.tmp 10), .. }) (v := ?_) rfl (by kernel_rfl) (by kernel_rfl) (by kernel_rfl) (by kernel_rfl) (fun _ _ _ h => h) (Or.inl ⟨by rfl, ?_⟩) (by assumption) ?_
    rotate_left 1
    ·intro v hSv
     clear hSv
     go_simp
     try with_reducible rfl
    try simp only [Act.put, x_A, x_0, x_1]
    refine HeldT.take (i := 3) (oi := { dst := some 40, op := .indexAddr _ (.tmp 38) (.tmp 39), .. }) (v := ?_) rfl (by kernel_rfl) (by kernel_rfl) (by kernel_rfl) (by kernel_rfl) (fun _ _ _ h => h) (Or.inl ⟨by rfl, ?_⟩) (by assumption) ?_
    rotate_left 1
    ·intro v hSv
     clear hSv
     go_simp
     try with_reducible rfl
    try simp only [Act.put, x_A, x_0, x_1]
    refine HeldT.take (i := 4) (oi := { dst := some 41, op := .load _ (.tmp 40), .. }) (v := ?_) rfl (by kernel_rfl) (by kernel_rfl) (by kernel_rfl) (by kernel_rfl) (fun _ _ _ h => h) (Or.inl ⟨by rfl, ?_⟩) (by assumption) ?_
    rotate_left 1
    ·intro v hSv
     have hv1 := LX.out v hSv
     clear hSv
     go_simp
     try with_reducible rfl
    try simp only [Act.put, x_A, x_0, x_1]
    refine HeldT.one (i := 5) (o := { dst := some 42, op := .call _, .. }) (by kernel_rfl) rfl rfl (fun K hK => ?_)
    go_wp2_with fail
    refine (rnode_c dg x HDL.out HXL.out _).mono ?_
    rintro e y9 ⟨v9, rfl, hO, hb⟩
    have hq9 : Below w3.heap.size w3 y9 := ((Below.refl _ _).drew).trans (hb.mono (by simp))
    have HQ9 := Lib.hid hq9
    have HO9 := Lib.hid hO
    clear hb hO
    go_wp2_with fail
    refine hK.out _ _ (fun _ => hq9) (fun hS => ?_)
    have hHeld := hS (by decide)
    clear hS hK K
    try simp only [Act.put, x_A, x_0, x_1]
    clear hq9
    refine HeldT.one (i := 6) (o := { dst := some 12, op := .assign (.tmp 42), .. }) (by kernel_rfl) rfl rfl (fun K hK => ?_)
    go_wp2_with fail
    refine hK.out _ _ (fun h => absurd rfl h) (fun _ => ?_)
    clear hK K
    refine HeldT.done (by kernel_rfl) ?_ _
    have HBQ9 : Hid (Below wr.heap.size wr y9) := HB3.out.trans (HQ9.out.mono HB3.out.size)
    have HR9 : Hid (y9.heap[w2.heap.size]? = some (.cells (bA dg) 47 (0, 0))) := by show _ = _; rw [HQ9.out.block _ (lt_of_heap HDR.out)]; exact HDR.out
    have lk := (RowB.below (HKR.out) (HBX.out.trans ((HBY.out.trans (HBQ9.out.mono HBY.out.size)).mono HBX.out.size))).ldKey HK.out
    have HBC := Lib.hid (bitK_c k HK.out (d : Int) y9)
    go_wp2_with fail
    refine HBC.out.mono ?_
    rintro _ w4 ⟨rfl, hb4⟩
    have HBQ4 : Hid (Below wr.heap.size wr w4) := HBQ9.out.trans (hb4.mono HBQ9.out.size)
    have HO4 := Lib.hid (HO9.out.below hb4)
    have HR4 : Hid (w4.heap[w2.heap.size]? = some (.cells (bA dg) 47 (0, 0))) := by show _ = _; rw [hb4.block _ (lt_of_heap HR9.out)]; exact HR9.out
    clear hb4 lk HBC
    rcases bitK_01 k d (by have := HD2.out; omega) with hbit | hbit
    ·rw [hbit]
     have HSN : Hid (nodeL dg x = stepN k d dg x) := by show _ = _; unfold stepN; rw [if_neg (by omega)]
     rw [HSN.out] at HO4
     clear hbit
     obtain ⟨A7, c7, hv7, hc7, hA7⟩ := HO4.out.any
     subst hv7
     have HH7 : Hid (Hd16 w4 (.slice A7 (stepN k d dg x).length c7) (stepN k d dg x)) := ⟨A7, c7, rfl, hA7, hc7⟩
     have HPQ : Hid (PS w4 (some ⟨g1, o1, none⟩) (preB n (endP p) X0 k D i)) := HPS.out.below HBQ4.out
     obtain ⟨ln, hln⟩ : ∃ ln, ln = (stepN k d dg x).length := ⟨_, rfl⟩
     rw [← hln] at HH7 ⊢
     have HLN := Lib.hid hln
     clear hA7 hc7 hln
     go_wp2_with (at_builtin; refine wpList_consP rfl _ _ rfl (stepN k d dg x) rfl HH7.out (some ⟨g1, o1, none⟩) co (preB n (endP p) X0 k D i) (by rw [preB_len]; rfl) HPQ.out (by intro h; have := preB_len n (endP p) X0 k D i; rw [h] at this; cases this) (by rw [preB_len]; have := HD2.out; omega) ?_; intro A8 c8 w8 hP8 hb8)
     rw [preB_len]
     have HP8 : Hid (PS w8 A8 (preB n (endP p) X0 k D (i + 1))) := by
      show PS _ _ _
      rw [show preB n (endP p) X0 k D (i + 1) = stepN k d dg x :: preB n (endP p) X0 k D i by
       show preF n (endP p) X0 k D (i + 1) :: _ = _
       show stepN k (D - 1 - i) (digL n (preF n (endP p) X0 k D i)) (X0.getD (D - 1 - i) []) :: _ = _
       rw [← HDI.out, ← HDG.out, HXD.out]]
      exact hP8
     have HB8 : Hid (Below Y.heap.size Y w8) := (HBY.out.trans (HBQ4.out.mono HBY.out.size)).trans (hb8.mono (Nat.le_trans HBY.out.size HBQ4.out.size))
     clear hP8 hb8
     go_wp2_with fail
     go_roundg (D - (i + 1))
     case measure => omega
     case rel => exact ⟨i + 1, A8, c8, by rw [HDD.out], by omega, rfl, rfl, HP8.out, HB8.out⟩
    ·rw [hbit]
     have HSN : Hid (nodeL x dg = stepN k d dg x) := by show _ = _; unfold stepN; rw [if_pos hbit]
     have LD4 : Hid (∀ q, Below w4.heap.size w4 q → ldA 47 q (.pointer (some ⟨w2.heap.size, 0, none⟩)) = .ok (.value (.agg (bA dg))) q) := fun q h => RowB.ldDig (show q.heap[w2.heap.size]? = _ by rw [h.block _ (lt_of_heap HR4.out)]; exact HR4.out) HDL.out
     have LX4 : Hid (∀ q, Below w4.heap.size w4 q → ldA 47 q (.pointer (some ⟨g5, o5 + d * 32, none⟩)) = .ok (.value (.agg (bA x))) q) := fun q h => ldDig (range_below (range_below HXR.out HBQ4.out) h) HXL.out
     clear hbit
     go_wp2_with fail
     refine region_heldT 6 (fun q => Below w4.heap.size w4 q) (by kernel_rfl) ?_
     have hHeld : Below w4.heap.size w4 w4.drew := (Below.refl _ _).drew
     refine HeldT.take (i := 0) (oi := { dst := some 47, op := .move (.tmp 7), .. }) (v := ?_) rfl (by kernel_rfl) (by kernel_rfl) (by kernel_rfl) (by kernel_rfl) (fun _ _ _ h => h) (Or.inl ⟨by rfl, ?_⟩) (by assumption) ?_
     rotate_left 1
     ·intro v hSv
      clear hSv
      go_simp
      try with_reducible rfl
     try simp only [Act.put, x_A, x_0, x_1]
     refine HeldT.take (i := 1) (oi := { dst := some 48, op := .move (.tmp 10), .. }) (v := ?_) rfl (by kernel_rfl) (by kernel_rfl) (by kernel_rfl) (by kernel_rfl) (fun _ _ _ h => h) (Or.inl ⟨by rfl, ?_⟩) (by assumption) ?_
     rotate_left 1
     ·intro v hSv
      clear hSv
      go_simp
      try with_reducible rfl
     try simp only [Act.put, x_A, x_0, x_1]
     refine HeldT.take (i := 2) (oi := { dst := some 49, op := .indexAddr _ (.tmp 47) (.tmp 48), .. }) (v := ?_) rfl (by kernel_rfl) (by kernel_rfl) (by kernel_rfl) (by kernel_rfl) (fun _ _ _ h => h) (Or.inl ⟨by rfl, ?_⟩) (by assumption) ?_
     rotate_left 1
     ·intro v hSv
      clear hSv
      go_simp
      try with_reducible rfl
     try simp only [Act.put, x_A, x_0, x_1]
     refine HeldT.take (i := 3) (oi := { dst := some 50, op := .load _ (.tmp 49), .. }) (v := ?_) rfl (by kernel_rfl) (by kernel_rfl) (by kernel_rfl) (by kernel_rfl) (fun _ _ _ h => h) (Or.inl ⟨by rfl, ?_⟩) (by assumption) ?_
     rotate_left 1
     ·intro v hSv
      have hv1 := LX4.out v hSv
      clear hSv
      go_simp
      try with_reducible rfl
     try simp only [Act.put, x_A, x_0, x_1]
     refine HeldT.take (i := 4) (oi := { dst := some 51, op := .load _ (.tmp 11), .. }) (v := ?_) rfl (by kernel_rfl) (by kernel_rfl) (by kernel_rfl) (by kernel_rfl) (fun _ _ _ h => h) (Or.inl ⟨by rfl, ?_⟩) (by assumption) ?_
     rotate_left 1
     ·intro v hSv
      have hv1 := LD4.out v hSv
      clear hSv
      go_simp
      try with_reducible rfl
     try simp only [Act.put, x_A, x_0, x_1]
     refine HeldT.one (i := 5) (o := { dst := some 52, op := .call _, .. }) (by kernel_rfl) rfl rfl (fun K hK => ?_)
     go_wp2_with fail
     refine (rnode_c x dg HXL.out HDL.out _).mono ?_
     rintro e y5 ⟨v5, rfl, hO, hb⟩
     have hq5 : Below w4.heap.size w4 y5 := ((Below.refl _ _).drew).trans (hb.mono (by simp))
     have HQ5 := Lib.hid hq5
     have HO5 := Lib.hid hO
     clear hb hO
     go_wp2_with fail
     refine hK.out _ _ (fun _ => hq5) (fun hS => ?_)
     have hHeld := hS (by decide)
     clear hS hK K
     try simp only [Act.put, x_A, x_0, x_1]
     clear hq5
     refine HeldT.one (i := 6) (o := { dst := some 12, op := .assign (.tmp 52), .. }) (by kernel_rfl) rfl rfl (fun K hK => ?_)
     go_wp2_with fail
     refine hK.out _ _ (fun h => absurd rfl h) (fun _ => ?_)
     clear hK K
     refine HeldT.done (by kernel_rfl) ?_ _
     have HBQ5 : Hid (Below wr.heap.size wr y5) := HBQ4.out.trans (HQ5.out.mono HBQ4.out.size)
     rw [HSN.out] at HO5
     obtain ⟨A7, c7, hv7, hc7, hA7⟩ := HO5.out.any
     subst hv7
     have HH7 : Hid (Hd16 y5 (.slice A7 (stepN k d dg x).length c7) (stepN k d dg x)) := ⟨A7, c7, rfl, hA7, hc7⟩
     have HPQ : Hid (PS y5 (some ⟨g1, o1, none⟩) (preB n (endP p) X0 k D i)) := HPS.out.below HBQ5.out
     obtain ⟨ln, hln⟩ : ∃ ln, ln = (stepN k d dg x).length := ⟨_, rfl⟩
     rw [← hln] at HH7 ⊢
     have HLN := Lib.hid hln
     clear hA7 hc7 hln
     go_wp2_with (at_builtin; refine wpList_consP rfl _ _ rfl (stepN k d dg x) rfl HH7.out (some ⟨g1, o1, none⟩) co (preB n (endP p) X0 k D i) (by rw [preB_len]; rfl) HPQ.out (by intro h; have := preB_len n (endP p) X0 k D i; rw [h] at this; cases this) (by rw [preB_len]; have := HD2.out; omega) ?_; intro A8 c8 w8 hP8 hb8)
     rw [preB_len]
     have HP8 : Hid (PS w8 A8 (preB n (endP p) X0 k D (i + 1))) := by
      show PS _ _ _
      rw [show preB n (endP p) X0 k D (i + 1) = stepN k d dg x :: preB n (endP p) X0 k D i by
       show preF n (endP p) X0 k D (i + 1) :: _ = _
       show stepN k (D - 1 - i) (digL n (preF n (endP p) X0 k D i)) (X0.getD (D - 1 - i) []) :: _ = _
       rw [← HDI.out, ← HDG.out, HXD.out]]
      exact hP8
     have HB8 : Hid (Below Y.heap.size Y w8) := (HBY.out.trans (HBQ5.out.mono HBY.out.size)).trans (hb8.mono (Nat.le_trans HBY.out.size HBQ5.out.size))
     clear hP8 hb8
     go_wp2_with fail
     go_roundg (D - (i + 1))
     case measure => omega
     case rel => exact ⟨i + 1, A8, c8, by rw [HDD.out], by omega, rfl, rfl, HP8.out, HB8.out⟩
   ·obtain rfl : i = D := by omega
    rw [show (i : Int) - 1 - (i : Int) = -1 by omega]
    have e0 : decide ((0 : Int) ≤ -1) = false := by decide
    go_wp2_with fail
    go_ret
    refine ⟨Ao, co, by rw [preB_len]; rfl, HPS.out, ?_⟩
    exact HBW.out.trans (HBY.out.mono HBW.out.size)
end
section
open Go.RowKit
theorem rsteps_c (n : Int) (p : Pf) (hp : p.Ok) (A : Option Addr) (c : Nat) (k : List UInt8) (hk : k.length = 32) (w : World) (hA : DS w A p.sib) (hg : p.good) (hkd : p.kind = 0 ∨ p.kind = 1) :
  Calls Tryz.prog 45 #[.int .i64 n, .agg (pfC p (.slice A p.sib.length c)), .agg (bA k)] w fun e w' => ∃ v, e = .returned v ∧ OwnD w' w.heap.size v (stepL n p k) ∧ Below w.heap.size w w' := by
 obtain ⟨X, hX⟩ : ∃ X, X = (w.alloc (.cells (pfC p (.slice A p.sib.length c)) 53)).alloc (.cells (bA k) 48) := ⟨_, rfl⟩
 have hB : Below w.heap.size w X := by rw [hX]; exact Bt.two_below _ _ _
 have hP : PfAt X w.heap.size p (.slice A p.sib.length c) := by rw [hX]; exact (PfAt.one w p _).below (Bt.one_below _ _) (by simp)
 have hKR : RowB X (w.heap.size + 1) 48 k := by rw [hX]; exact heap_alloc2_new w _ _
 obtain ⟨D, hD⟩ : ∃ D : Nat, D = p.dep.toNat := ⟨_, rfl⟩
 have HD2 : Hid (D ≤ 256) := by have := hg.2.1; have := hg.1; show D ≤ 256; omega
 obtain ⟨X0, hX0⟩ : ∃ X0, X0 = sidX n p := ⟨_, rfl⟩
 have HXN : Hid (X0.length = D) := by show _ = _; rw [hX0, hD]; exact expL_len ..
 have HXS : Hid (∀ s ∈ X0, s.length = 32) := by rw [hX0]; exact expL_mem hg.2.2.2.1 hp.sib (by have := hg.2.1; have := hg.1; omega)
 have HEL : Hid ((endP p).length ≤ 65) := endP_len hp
 have HPR := rpre_c n p hp A c k hk X (hA.below hB) hg hkd
 rw [show preL n p k = preB n (endP p) X0 k D D by rw [hX0, hD]; rfl, preB_len] at HPR
 have HPR := Lib.hid HPR
 have HST : Hid (stepL n p k = stpC n (endP p) X0 k D (D + 1)) := by show _ = _; rw [stpC_B, hX0, hD]; rfl
 have ld := hP.ld hp
 have lk := hKR.ldKey hk
 rw [hX] at ld lk
 have HX := Lib.hid hX
 have HB0 := Lib.hid hB
 rw [HST.out]
 have hw0 : IntKind.i64.wrap (((D + 1 : Nat) : Int) - 1) = (D : Int) := by rw [Bt.wrap_inr (by omega) (by have := HD2.out; omega)]; omega
 have hw0' : IntKind.i64.wrap ((D : Int) + 1 - 1) = (D : Int) := by rw [Bt.wrap_inr (by omega) (by have := HD2.out; omega)]; omega
 clear hB hP hKR hp hA hX hg hD hX0 hk hkd
 go_enter Tryz.func45, Tryz.ntmps45
 go_wp2_with fail
 rw [← HX.out]
 clear HX ld lk
 refine HPR.out.mono ?_
 rintro _ w1 ⟨A1, c1, rfl, hPS, hb1⟩
 have HPS := Lib.hid hPS
 have HB1 : Hid (Below w.heap.size w w1) := HB0.out.trans (hb1.mono HB0.out.size)
 clear hPS hb1 HPR
 have hD256 : D ≤ 256 := HD2.out
 go_wp2_with fail
 clear hw0 hw0'
 go_loopg [8, 9] (D + 1) (fun gg out iv wr => ∃ j : Nat, iv = .int .i64 ((D : Int) - (j : Int)) ∧ j ≤ D + 1 ∧ D + 1 - j = gg ∧ OwnD wr w1.heap.size out (stpC n (endP p) X0 k D j) ∧ Below w1.heap.size w1 wr)
 case atStart => exact ⟨0, by go_num, by omega, by omega, OwnD.nil _ _, Below.refl _ _⟩
 case round =>
  obtain ⟨j, rfl, hj, rfl, hO, hb⟩ := hrel
  have HO := Lib.hid hO
  have HBW := Lib.hid hb
  clear hO hb
  by_cases hlt : j ≤ D
  ·obtain ⟨d, hd⟩ : ∃ d, d = D - j := ⟨_, rfl⟩
   have HDD : Hid ((D : Int) - ((j + 1 : Nat) : Int) = (d : Int) - 1) := by show _ = _; omega
   rw [show (D : Int) - (j : Int) = (d : Int) by omega]
   obtain ⟨g1, o1, v1, rfl, hc1, A2, c2, rfl, hba, hcl⟩ := (HPS.out.below HBW.out) d _ (show (preB n (endP p) X0 k D D)[d]? = some (preF n (endP p) X0 k D j) by rw [hd]; exact preB_at n (endP p) X0 k D D j hlt)
   have HSM := Lib.hid (rdig_c n A2 c2 (preF n (endP p) X0 k D j) wr hba (by have := preF_len (n := n) (k := k) HEL.out HXS.out (by rw [HXN.out]; exact Nat.le_refl D) j hlt; omega))
   obtain ⟨dg, hdg⟩ : ∃ dg, dg = digL n (preF n (endP p) X0 k D j) := ⟨_, rfl⟩
   have HDL : Hid (dg.length = 32) := by show _ = _; rw [hdg]; exact dig_len _ _
   have HSN : Hid (stpC n (endP p) X0 k D (j + 1) = stpC n (endP p) X0 k D j ++ [dg]) := by show _ = _; rw [hdg]; rfl
   rw [← hdg] at HSM
   have HLN : Hid ((stpC n (endP p) X0 k D j).length ≤ 1000000) := by show _ ≤ _; rw [stpC_len]; have := HD2.out; omega
   have bsx := bsD_one dg HDL.out
   have e0 : decide ((0 : Int) ≤ (d : Int)) = true := decide_eq_true (by omega)
   have j0 : (0 : Int) ≤ (d : Int) := by omega
   have j1 : (d : Int) < ((D + 1 : Nat) : Int) := by omega
   have j1' : (d : Int) < (D : Int) + 1 := by omega
   have hw1 : IntKind.i64.wrap ((d : Int) - 1) = (d : Int) - 1 := Bt.wrap_inr (by omega) (by have := HD2.out; omega)
   clear hd hba hcl hdg
   go_wp2_with fail
   refine HSM.out.mono ?_
   rintro _ w2 ⟨rfl, hb2⟩
   have HO2 := Lib.hid (HO.out.below hb2)
   have HB2 := Lib.hid (HBW.out.trans (hb2.mono HBW.out.size))
   clear hb2 HSM hc1
   go_wp2_with (at_builtin; refine wpList_pushD rfl _ _ rfl w1.heap.size _ (stpC n (endP p) X0 k D j) rfl (HO2.out.below (Bt.one_below _ _)) w2.heap.size dg HDL.out rfl (dig_made _ _ _) HLN.out (by have := HB2.out.size; simp; omega) ?_)
   intro v' w3 hO3 hG3
   have HO3 := Lib.hid hO3
   have hB3 := (Below.refl w1.heap.size _).grown hG3.by_ (by have := HB2.out.size; simp; omega) (OwnD.ge HO2.out)
   have HB3 := Lib.hid ((HB2.out.alloc HB2.out.size _).trans hB3)
   clear hO3 hG3 hB3
   go_wp2
   go_roundg (D + 1 - (j + 1))
   case measure => omega
   case rel => exact ⟨j + 1, by rw [HDD.out], by omega, rfl, by rw [HSN.out]; exact HO3.out, HB3.out⟩
  ·obtain rfl : j = D + 1 := by omega
   rw [show (D : Int) - ((D + 1 : Nat) : Int) = -1 by omega]
   have e0 : decide ((0 : Int) ≤ -1) = false := by decide
   go_wp2_with fail
   go_ret
   exact ⟨_, rfl, HO.out.mono HB1.out.size, HB1.out.trans (HBW.out.mono HB1.out.size)⟩
end
end Go.Proofs.YtjgdindjimbfeaaGreatDoor
