/- The function of FoldEnds returns true, over contracts (by program: gen-tpl16-laws.py). -/
import Derived.BigQuiet
import Derived.Test.YtnmbbfndboohjaaDoorCD
import Derived.Test.YtnmbbfndboohjaaDoorMD
namespace Go.Proofs.YtnmbbfndboohjaaDoor
open Go.RowKit

set_option linter.unusedSimpArgs false in
set_option maxHeartbeats 16000000 in
set_option maxRecDepth 100000 in
theorem foldends16_out (fo : FoV) (n : Int) (p : Pf) (A : Option Addr) (c : Nat) (W : World) (hvx : Vars W) (h : (n < 0 ∨ 256 < n) ∨ (p.kind ≠ 0 ∧ p.kind ≠ 1)) :
    Calls Tryd.prog 3 #[.int .i64 n, .agg (pfC p (.slice A p.sib.length c))] W (Aye W) := by
  obtain ⟨X, hX⟩ : ∃ X, X = W.alloc (.cells (pfC p (.slice A p.sib.length c)) 29) := ⟨_, rfl⟩
  have hB : Below W.heap.size W X := by rw [hX]; exact Bt.one_below _ _
  have hP : PfAt X W.heap.size p (.slice A p.sib.length c) := by rw [hX]; exact PfAt.one _ _ _
  have lk := hP.kind
  have HB := Lib.hid hB
  have HVX := Lib.hid (hvx.below hB)
  have HX := Lib.hid hX
  by_cases h1 : n < 0 ∨ 256 < n
  · skip
    have HR : Hid (∀ w, Calls Tryd.prog 8 #[.int .i64 n] w fun e w' => e = .returned (.bool false) ∧ w = w') := fun w => by
      have := right5_c n w
      rwa [decide_eq_false (by omega)] at this
    clear hB hX h h1 hvx hP
    go_enter Tryd.func3, Tryd.ntmps3
    go_wp2_with fail
    rw [← HX.out]
    refine (HR.out X).mono ?_
    rintro _ _ ⟨rfl, rfl⟩
    go_wp2_with fail
    refine (alive16_c fo _ HVX.out).mono ?_
    rintro e w1 ⟨rfl, hb⟩
    have HB1 := Lib.hid (keeps HB.out hb)
    clear hb lk
    go_wp2
    go_ret
    exact ⟨rfl, HB1.out⟩
  · skip
    have HR : Hid (∀ w, Calls Tryd.prog 8 #[.int .i64 n] w fun e w' => e = .returned (.bool true) ∧ w = w') := fun w => by
      have := right5_c n w
      rwa [decide_eq_true (by omega)] at this
    have b0 : (p.kind != 0) = true := by simp; omega
    have b1 : (p.kind != 1) = true := by simp; omega
    clear hB hX h h1 hvx hP
    go_enter Tryd.func3, Tryd.ntmps3
    go_wp2_with fail
    rw [← HX.out]
    refine (HR.out X).mono ?_
    rintro _ _ ⟨rfl, rfl⟩
    go_wp2_with fail
    refine (alive16_c fo _ HVX.out).mono ?_
    rintro e w1 ⟨rfl, hb⟩
    have HB1 := Lib.hid (keeps HB.out hb)
    clear hb lk
    go_wp2
    go_ret
    exact ⟨rfl, HB1.out⟩
set_option linter.unusedSimpArgs false in
set_option maxHeartbeats 16000000 in
set_option maxRecDepth 100000 in
theorem foldends16_in (fo : FoV) (n : Int) (p : Pf) (A : Option Addr) (c : Nat) (W : World) (hp : p.Ok) (hA : DS W A p.sib) (hc : p.sib.length ≤ c) (hvx : Vars W) (h0 : 0 ≤ n) (h1 : n ≤ 256) (hki : p.kind = 0 ∨ p.kind = 1) :
    Calls Tryd.prog 3 #[.int .i64 n, .agg (pfC p (.slice A p.sib.length c))] W (Aye W) := by
  obtain ⟨X, hX⟩ : ∃ X, X = W.alloc (.cells (pfC p (.slice A p.sib.length c)) 29) := ⟨_, rfl⟩
  have hB : Below W.heap.size W X := by rw [hX]; exact Bt.one_below _ _
  have hP : PfAt X W.heap.size p (.slice A p.sib.length c) := by rw [hX]; exact PfAt.one _ _ _
  have lk := hP.kind
  have HB := Lib.hid hB
  have HVX := Lib.hid (hvx.below hB)
  have HX := Lib.hid hX
  have HR : Hid (∀ w, Calls Tryd.prog 8 #[.int .i64 n] w fun e w' => e = .returned (.bool true) ∧ w = w') := fun w => by
    have := right5_c n w
    rwa [decide_eq_true (by omega)] at this
  have HPX := Lib.hid hP
  have HAX := Lib.hid (hA.below hB)
  have HPO := Lib.hid hp
  have HC := Lib.hid hc
  have HH := Lib.hid (hash_in n X h0 h1)
  have HKI := Lib.hid hki
  clear hB hX hp hP hA hc h0 h1 hvx hki
  rcases HKI.out with hkd | hkd
  · have HEE : Hid (endP p = emptyL) := by show _ = _; unfold endP; rw [if_neg (by omega)]
    rw [hkd] at lk
    go_enter Tryd.func3, Tryd.ntmps3
    go_wp2_with fail
    rw [← HX.out]
    refine (HR.out X).mono ?_
    rintro _ _ ⟨rfl, rfl⟩
    go_wp2_with fail
    refine HH.out.mono ?_
    rintro _ w1 ⟨b, rfl, hb, hH, hB1⟩
    have HB1 := Lib.hid (keeps HB.out hB1)
    have HV1 := Lib.hid (HVX.out.below hB1)
    have HP1 := Lib.hid (HPX.out.below hB1 HPX.out.lt)
    have HA1 := Lib.hid (HAX.out.below hB1)
    have HH1 := Lib.hid hH
    have HNB : Hid (W.heap.size < b) := Nat.lt_of_lt_of_le HPX.out.lt hb
    have HNW : Hid (¬ W.heap.size = b) := fun e => by have := HNB.out; omega
    have HWN : Hid (W.heap.size ≤ b) := Nat.le_of_lt HNB.out
    clear hb hH hB1 HH lk
    go_wp2_with fail
    refine (rempty_c n w1).mono ?_
    rintro _ w2 ⟨rfl, hb⟩
    have HB2 := Lib.hid (keeps HB1.out hb)
    have HV2 := Lib.hid (HV1.out.below hb)
    have HP2 := Lib.hid (HP1.out.below hb HP1.out.lt)
    have HA2 := Lib.hid (HA1.out.below hb)
    have HH2 := Lib.hid (HH1.out.keep (Keep.of_below (L := fun _ => False) hb) id)
    have HN2 : Hid (¬ w2.heap.size = b) := fun e => by have := lt_of_heap HH2.out; omega
    obtain ⟨d0, hd0⟩ : ∃ d0, d0 = digL n emptyL := ⟨_, rfl⟩
    have HD0 : Hid (d0.length = 32) := by show _ = _; rw [hd0]; exact dig_len _ _
    rw [← hd0]
    have st := stA_new (t := 24) w2 (bA z26) (bA d0) (by rw [bA_size, HD0.out]; exact info26) (by rw [bA_size, bA_size, HD0.out]; rfl) (bA_one _)
    obtain ⟨w3, hw3⟩ : ∃ w, w = w2.alloc (.cells (bA d0) 24) := ⟨_, rfl⟩
    have hb3 : Below w2.heap.size w2 w3 := by rw [hw3]; exact Bt.one_below _ _
    have HR3 : Hid (w3.heap[w2.heap.size]? = some (.cells (bA d0) 24 (0, 0))) := by show _ = _; rw [hw3]; exact heap_alloc_new w2 _
    rw [← hw3] at st
    have HB3 := Lib.hid (keeps HB2.out hb3)
    have HV3 := Lib.hid (HV2.out.below hb3)
    have HP3 := Lib.hid (HP2.out.below hb3 HP2.out.lt)
    have HA3 := Lib.hid (HA2.out.below hb3)
    have HH3 := Lib.hid (HH2.out.keep (Keep.of_below (L := fun _ => False) hb3) id)
    have HW3 := Lib.hid hw3
    have HDE := Lib.hid hd0
    have lk := HP3.out.kind
    clear hb hb3 hw3 hd0
    rw [hkd] at lk
    clear hkd
    go_wp2_with fail
    clear st lk
    obtain ⟨dg, hdg⟩ : ∃ dg, dg = d0 := ⟨_, rfl⟩
    have HDG : Hid (dg = digL n (endP p)) := by show _ = _; rw [hdg, HDE.out, HEE.out]
    have HDL : Hid (dg.length = 32) := by show _ = _; rw [hdg]; exact HD0.out
    have HRY : Hid (w3.heap[w2.heap.size]? = some (.cells (bA dg) 24 (0, 0))) := by show _ = _; rw [hdg]; exact HR3.out
    obtain ⟨Y, hY⟩ : ∃ Y, Y = w3 := ⟨_, rfl⟩
    subst hY
    have HPY := HP3
    have HVY := HV3
    have HHY := HH3
    have HAY := HA3
    have HBY0 := HB3
    clear hdg
    have LP : Hid (∀ v, Keep (fun i => i = b) Y v → ldA 29 v (.pointer (some ⟨W.heap.size, 0, none⟩)) = .ok (.value (.agg (pfC p (.slice A p.sib.length c)))) v) := fun v h => (HPY.out.keep h HNW.out).ld HPO.out
    have LW : Hid (∀ v, Keep (fun i => i = b) Y v → ldA 24 v (.pointer (some ⟨w2.heap.size, 0, none⟩)) = .ok (.value (.agg (bA dg))) v) := fun v h => RowB.ldDig (show v.heap[w2.heap.size]? = _ from h.heap HRY.out HN2.out) HDL.out
    have HAL : Hid (∀ v, Keep (fun i => i = b) Y v → Calls Tryd.prog 9 #[] v (Aye v)) := fun v h => alive16_c fo v (HVY.out.hs HHY.out h)
    have HF0 : Hid (Hs Y.drew b n 0) := HHY.out
    have HEN : Hid (∀ v, Keep (fun i => i = b) Y v → Hs v b n 0 → Calls Tryd.prog 14 #[ptr b, .agg (pfC p (.slice A p.sib.length c))] v fun e w' => ∃ m' : Nat, e = .returned (.agg (bA dg)) ∧ Keep (fun i => i = b) v w') := fun v hk hh => by
      have := fo.endd v b n 0 p A c hh (by omega) (HVY.out.hs HHY.out hk) HPO.out (HAY.out.hs HHY.out hk) HC.out HKI.out
      rw [← HDG.out] at this
      exact this.mono fun e w' ⟨m', h1, _, _, h4⟩ => ⟨m', h1, h4⟩
    have HBY : Hid (∀ w', Keep (fun i => i = b) Y w' → Below W.heap.size W w') := fun w' h => keep_new HBY0.out HWN.out h
    have el := fun x y w => eqDig dg dg HDL.out HDL.out x y w
    rw [decide_eq_true (rfl : dg = dg)] at el
    go_wp2_with fail
    refine wp_region_held_drew (S := fun w' => Keep (fun i => i = b) Y w') (by kernel_rfl) ((Keep.refl _ _).drew) (fun hHeld => ?_)
    have hb0 : Keep (fun i => i = b) Y Y.drew := (Keep.refl _ _).drew
    refine wpAnyH_ready (rs := [0]) (by kernel_rfl) (by simp) ?_
    refine AllReadyH.cons (o := { dst := some 35, op := .call _, type := _, pos := _, after := _, guard := _ }) rfl (fun K hK => ?_) AllReadyH.nil
    go_simp
    refine (HAL.out _ (by assumption)).mono ?_
    rintro e y1 ⟨rfl, hb⟩
    have hb1 : Keep (fun i => i = b) Y y1 := (hb0).trans (Keep.of_below hb)
    have HF1 := Lib.hid (HF0.out.keep (Keep.of_below (L := fun _ => False) hb) id)
    clear hb
    go_wp2_with fail
    refine hK.out _ _ (hb1) (fun hHeld => ?_)
    clear hK K
    try simp only [Act.put, List.setIfInBounds_toArray, List.set_cons_zero, List.set_cons_succ]
    refine wpAnyH_take (i := 1) (oi := { dst := some 36, op := .move (.tmp 35), type := _, pos := _, after := _, guard := _ }) (v := ?_) rfl (by kernel_rfl) (by kernel_rfl) (by kernel_rfl) (fun _ _ _ h => h) (Or.inl ⟨by rfl, ?_⟩) (by assumption) ?_
    rotate_left 1
    · intro v hSv
      clear hSv
      go_simp
      try with_reducible rfl
    try simp only [Act.put, List.setIfInBounds_toArray, List.set_cons_zero, List.set_cons_succ]
    refine wpAnyH_take (i := 2) (oi := { dst := some 37, op := .move (.tmp 5), type := _, pos := _, after := _, guard := _ }) (v := ?_) rfl (by kernel_rfl) (by kernel_rfl) (by kernel_rfl) (fun _ _ _ h => h) (Or.inl ⟨by rfl, ?_⟩) (by assumption) ?_
    rotate_left 1
    · intro v hSv
      clear hSv
      go_simp
      try with_reducible rfl
    try simp only [Act.put, List.setIfInBounds_toArray, List.set_cons_zero, List.set_cons_succ]
    refine wpAnyH_take (i := 3) (oi := { dst := some 38, op := .load _ (.tmp 3), type := _, pos := _, after := _, guard := _ }) (v := ?_) rfl (by kernel_rfl) (by kernel_rfl) (by kernel_rfl) (fun _ _ _ h => h) (Or.inl ⟨by rfl, ?_⟩) (by assumption) ?_
    rotate_left 1
    · intro v hSv
      have hv1 := LP.out v hSv
      clear hSv
      go_simp
      try with_reducible rfl
    try simp only [Act.put, List.setIfInBounds_toArray, List.set_cons_zero, List.set_cons_succ]
    refine wpAnyH_take (i := 5) (oi := { dst := some 40, op := .load _ (.tmp 6), type := _, pos := _, after := _, guard := _ }) (v := ?_) rfl (by kernel_rfl) (by kernel_rfl) (by kernel_rfl) (fun _ _ _ h => h) (Or.inl ⟨by rfl, ?_⟩) (by assumption) ?_
    rotate_left 1
    · intro v hSv
      have hv1 := LW.out v hSv
      clear hSv
      go_simp
      try with_reducible rfl
    try simp only [Act.put, List.setIfInBounds_toArray, List.set_cons_zero, List.set_cons_succ]
    refine wpAnyH_ready (rs := [4]) (by kernel_rfl) (by simp) ?_
    refine AllReadyH.cons (o := { dst := some 39, op := .call _, type := _, pos := _, after := _, guard := _ }) rfl (fun K hK => ?_) AllReadyH.nil
    go_simp
    refine (HEN.out _ (by assumption) HF1.out).mono ?_
    rintro e y2 ⟨m9, rfl, hb⟩
    have hb2 : Keep (fun i => i = b) Y y2 := (hb1).trans hb
    clear hb
    go_wp2_with fail
    refine hK.out _ _ (hb2) (fun hHeld => ?_)
    clear hK K
    try simp only [Act.put, List.setIfInBounds_toArray, List.set_cons_zero, List.set_cons_succ]
    refine wpAnyH_take (i := 6) (oi := { dst := some 41, op := .binOp .eql _ (.tmp 39) (.tmp 40) _, type := _, pos := _, after := _, guard := _ }) (v := ?_) rfl (by kernel_rfl) (by kernel_rfl) (by kernel_rfl) (fun _ _ _ h => h) (Or.inl ⟨by rfl, ?_⟩) (by assumption) ?_
    rotate_left 1
    · intro v hSv
      clear hSv
      go_simp
      try with_reducible rfl
    try simp only [Act.put, List.setIfInBounds_toArray, List.set_cons_zero, List.set_cons_succ]
    refine wpAnyH_take (i := 7) (oi := { dst := some 42, op := .pick (.tmp 36) (.tmp 41) (.const (.bool false)), type := _, pos := _, after := _, guard := _ }) (v := ?_) rfl (by kernel_rfl) (by kernel_rfl) (by kernel_rfl) (fun _ _ _ h => h) (Or.inl ⟨by rfl, ?_⟩) (by assumption) ?_
    rotate_left 1
    · intro v hSv
      clear hSv
      go_simp
      try with_reducible rfl
    try simp only [Act.put, List.setIfInBounds_toArray, List.set_cons_zero, List.set_cons_succ]
    refine wpAnyH_take (i := 8) (oi := { dst := some 4, op := .assign (.tmp 42), type := _, pos := _, after := _, guard := _ }) (v := ?_) rfl (by kernel_rfl) (by kernel_rfl) (by kernel_rfl) (fun _ _ _ h => h) (Or.inl ⟨by rfl, ?_⟩) (by assumption) ?_
    rotate_left 1
    · intro v hSv
      clear hSv
      go_simp
      try with_reducible rfl
    try simp only [Act.put, List.setIfInBounds_toArray, List.set_cons_zero, List.set_cons_succ]
    refine wpAnyH_done (by kernel_rfl) ?_ _
    go_wp2_with fail
    go_ret
    exact ⟨rfl, HBY.out _ (hb2)⟩
  · have HEE : Hid (endP p = leafL (p.lf.take 32) (p.lf.drop 32)) := by show _ = _; unfold endP; rw [if_pos hkd, leaf_lf]
    rw [hkd] at lk
    go_enter Tryd.func3, Tryd.ntmps3
    go_wp2_with fail
    rw [← HX.out]
    refine (HR.out X).mono ?_
    rintro _ _ ⟨rfl, rfl⟩
    go_wp2_with fail
    refine HH.out.mono ?_
    rintro _ w1 ⟨b, rfl, hb, hH, hB1⟩
    have HB1 := Lib.hid (keeps HB.out hB1)
    have HV1 := Lib.hid (HVX.out.below hB1)
    have HP1 := Lib.hid (HPX.out.below hB1 HPX.out.lt)
    have HA1 := Lib.hid (HAX.out.below hB1)
    have HH1 := Lib.hid hH
    have HNB : Hid (W.heap.size < b) := Nat.lt_of_lt_of_le HPX.out.lt hb
    have HNW : Hid (¬ W.heap.size = b) := fun e => by have := HNB.out; omega
    have HWN : Hid (W.heap.size ≤ b) := Nat.le_of_lt HNB.out
    clear hb hH hB1 HH lk
    go_wp2_with fail
    refine (rempty_c n w1).mono ?_
    rintro _ w2 ⟨rfl, hb⟩
    have HB2 := Lib.hid (keeps HB1.out hb)
    have HV2 := Lib.hid (HV1.out.below hb)
    have HP2 := Lib.hid (HP1.out.below hb HP1.out.lt)
    have HA2 := Lib.hid (HA1.out.below hb)
    have HH2 := Lib.hid (HH1.out.keep (Keep.of_below (L := fun _ => False) hb) id)
    have HN2 : Hid (¬ w2.heap.size = b) := fun e => by have := lt_of_heap HH2.out; omega
    obtain ⟨d0, hd0⟩ : ∃ d0, d0 = digL n emptyL := ⟨_, rfl⟩
    have HD0 : Hid (d0.length = 32) := by show _ = _; rw [hd0]; exact dig_len _ _
    rw [← hd0]
    have st := stA_new (t := 24) w2 (bA z26) (bA d0) (by rw [bA_size, HD0.out]; exact info26) (by rw [bA_size, bA_size, HD0.out]; rfl) (bA_one _)
    obtain ⟨w3, hw3⟩ : ∃ w, w = w2.alloc (.cells (bA d0) 24) := ⟨_, rfl⟩
    have hb3 : Below w2.heap.size w2 w3 := by rw [hw3]; exact Bt.one_below _ _
    have HR3 : Hid (w3.heap[w2.heap.size]? = some (.cells (bA d0) 24 (0, 0))) := by show _ = _; rw [hw3]; exact heap_alloc_new w2 _
    rw [← hw3] at st
    have HB23 := Lib.hid hb3
    have HB3 := Lib.hid (keeps HB2.out hb3)
    have HV3 := Lib.hid (HV2.out.below hb3)
    have HP3 := Lib.hid (HP2.out.below hb3 HP2.out.lt)
    have HA3 := Lib.hid (HA2.out.below hb3)
    have HH3 := Lib.hid (HH2.out.keep (Keep.of_below (L := fun _ => False) hb3) id)
    have HW3 := Lib.hid hw3
    have HDE := Lib.hid hd0
    have lk := HP3.out.kind
    clear hb hb3 hw3 hd0
    have lf := HP3.out.leaf HPO.out
    rw [hkd] at lk
    clear hkd
    have HLF := rleaf_c (p.lf.take 32) (p.lf.drop 32) (by rw [List.length_take, HPO.out.lf]; rfl) (by rw [List.length_drop, HPO.out.lf]) w3
    rw [List.take_append_drop, ← HEE.out] at HLF
    have HLF := Lib.hid HLF
    go_wp2_with fail
    clear st lk lf
    refine HLF.out.mono ?_
    rintro _ w4 ⟨v4, rfl, hO, hb4⟩
    obtain ⟨A4, c4, rfl, hc4, hA4⟩ := hO.any
    obtain ⟨dg, hdg⟩ : ∃ dg, dg = digL n (endP p) := ⟨_, rfl⟩
    have HDG := Lib.hid hdg
    have HDL : Hid (dg.length = 32) := by show _ = _; rw [hdg]; exact dig_len _ _
    have HSM := rdig_c n A4 c4 (endP p) w4 hA4 (by have := endP_len HPO.out; omega)
    rw [← hdg] at HSM
    have HSM := Lib.hid HSM
    have HB34 := Lib.hid hb4
    have HB4 := Lib.hid (keeps HB3.out hb4)
    have HV4 := Lib.hid (HV3.out.below hb4)
    have HP4 := Lib.hid (HP3.out.below hb4 HP3.out.lt)
    have HA4 := Lib.hid (HA3.out.below hb4)
    have HH4 := Lib.hid (HH3.out.keep (Keep.of_below (L := fun _ => False) hb4) id)
    have HR4 : Hid (w4.heap[w2.heap.size]? = some (.cells (bA d0) 24 (0, 0))) := by show _ = _; rw [hb4.block _ (lt_of_heap HR3.out)]; exact HR3.out
    clear hO hc4 hA4 hb4 hdg HLF
    go_wp2_with fail
    refine HSM.out.mono ?_
    rintro _ w5 ⟨rfl, hb5⟩
    have HB5 := Lib.hid (keeps HB4.out hb5)
    have HV5 := Lib.hid (HV4.out.below hb5)
    have HP5 := Lib.hid (HP4.out.below hb5 HP4.out.lt)
    have HA5 := Lib.hid (HA4.out.below hb5)
    have HH5 := Lib.hid (HH4.out.keep (Keep.of_below (L := fun _ => False) hb5) id)
    have hR5 : w5.heap[w2.heap.size]? = some (.cells (bA d0) 24 (0, 0)) := by rw [hb5.block _ (lt_of_heap HR4.out)]; exact HR4.out
    have sb := stA_row (t := 24) (v := bA dg) hR5 (by rw [bA_size, HDL.out]; exact info26) (by rw [bA_size, bA_size, HD0.out, HDL.out]) (bA_one _)
    obtain ⟨Y, hY⟩ : ∃ Y, Y = w5.setRow w2.heap.size (bA dg) := ⟨_, rfl⟩
    have HRY : Hid (Y.heap[w2.heap.size]? = some (.cells (bA dg) 24 (0, 0))) := by show _ = _; rw [hY]; exact setRow_heap w5 _ _ _ _ _ hR5
    have hkY : Keep (fun i => i = w2.heap.size) w5 Y := by rw [hY]; exact Keep.row _ _ _
    have HWW : Hid (W.heap.size < w2.heap.size) := HP2.out.lt
    have HPY : Hid (PfAt Y W.heap.size p (.slice A p.sib.length c)) := HP5.out.keep hkY (by have := HWW.out; omega)
    have HBY0 : Hid (Below W.heap.size W Y) := keep_new HB5.out (Nat.le_of_lt HWW.out) hkY
    have HYX : Hid (Below w2.heap.size w2 Y) := by
      have h25 : Below w2.heap.size w2 w5 := (HB23.out.trans (HB34.out.mono HB23.out.size)).trans (hb5.mono (Nat.le_trans HB23.out.size HB34.out.size))
      exact keep_new h25 (Nat.le_refl _) hkY
    have HVY := Lib.hid (HV2.out.below HYX.out)
    have HAY := Lib.hid (HA2.out.below HYX.out)
    have HHY := Lib.hid (HH2.out.keep (Keep.of_below (L := fun _ => False) HYX.out) id)
    rw [← hY] at sb
    have HY := Lib.hid hY
    clear hb5 hR5 hkY hY HSM
    have LP : Hid (∀ v, Keep (fun i => i = b) Y v → ldA 29 v (.pointer (some ⟨W.heap.size, 0, none⟩)) = .ok (.value (.agg (pfC p (.slice A p.sib.length c)))) v) := fun v h => (HPY.out.keep h HNW.out).ld HPO.out
    have LW : Hid (∀ v, Keep (fun i => i = b) Y v → ldA 24 v (.pointer (some ⟨w2.heap.size, 0, none⟩)) = .ok (.value (.agg (bA dg))) v) := fun v h => RowB.ldDig (show v.heap[w2.heap.size]? = _ from h.heap HRY.out HN2.out) HDL.out
    have HAL : Hid (∀ v, Keep (fun i => i = b) Y v → Calls Tryd.prog 9 #[] v (Aye v)) := fun v h => alive16_c fo v (HVY.out.hs HHY.out h)
    have HF0 : Hid (Hs Y.drew b n 0) := HHY.out
    have HEN : Hid (∀ v, Keep (fun i => i = b) Y v → Hs v b n 0 → Calls Tryd.prog 14 #[ptr b, .agg (pfC p (.slice A p.sib.length c))] v fun e w' => ∃ m' : Nat, e = .returned (.agg (bA dg)) ∧ Keep (fun i => i = b) v w') := fun v hk hh => by
      have := fo.endd v b n 0 p A c hh (by omega) (HVY.out.hs HHY.out hk) HPO.out (HAY.out.hs HHY.out hk) HC.out HKI.out
      rw [← HDG.out] at this
      exact this.mono fun e w' ⟨m', h1, _, _, h4⟩ => ⟨m', h1, h4⟩
    have HBY : Hid (∀ w', Keep (fun i => i = b) Y w' → Below W.heap.size W w') := fun w' h => keep_new HBY0.out HWN.out h
    have el := fun x y w => eqDig dg dg HDL.out HDL.out x y w
    rw [decide_eq_true (rfl : dg = dg)] at el
    go_wp2_with fail
    refine wp_region_held_drew (S := fun w' => Keep (fun i => i = b) Y w') (by kernel_rfl) ((Keep.refl _ _).drew) (fun hHeld => ?_)
    have hb0 : Keep (fun i => i = b) Y Y.drew := (Keep.refl _ _).drew
    refine wpAnyH_ready (rs := [0]) (by kernel_rfl) (by simp) ?_
    refine AllReadyH.cons (o := { dst := some 35, op := .call _, type := _, pos := _, after := _, guard := _ }) rfl (fun K hK => ?_) AllReadyH.nil
    go_simp
    refine (HAL.out _ (by assumption)).mono ?_
    rintro e y1 ⟨rfl, hb⟩
    have hb1 : Keep (fun i => i = b) Y y1 := (hb0).trans (Keep.of_below hb)
    have HF1 := Lib.hid (HF0.out.keep (Keep.of_below (L := fun _ => False) hb) id)
    clear hb
    go_wp2_with fail
    refine hK.out _ _ (hb1) (fun hHeld => ?_)
    clear hK K
    try simp only [Act.put, List.setIfInBounds_toArray, List.set_cons_zero, List.set_cons_succ]
    refine wpAnyH_take (i := 1) (oi := { dst := some 36, op := .move (.tmp 35), type := _, pos := _, after := _, guard := _ }) (v := ?_) rfl (by kernel_rfl) (by kernel_rfl) (by kernel_rfl) (fun _ _ _ h => h) (Or.inl ⟨by rfl, ?_⟩) (by assumption) ?_
    rotate_left 1
    · intro v hSv
      clear hSv
      go_simp
      try with_reducible rfl
    try simp only [Act.put, List.setIfInBounds_toArray, List.set_cons_zero, List.set_cons_succ]
    refine wpAnyH_take (i := 2) (oi := { dst := some 37, op := .move (.tmp 5), type := _, pos := _, after := _, guard := _ }) (v := ?_) rfl (by kernel_rfl) (by kernel_rfl) (by kernel_rfl) (fun _ _ _ h => h) (Or.inl ⟨by rfl, ?_⟩) (by assumption) ?_
    rotate_left 1
    · intro v hSv
      clear hSv
      go_simp
      try with_reducible rfl
    try simp only [Act.put, List.setIfInBounds_toArray, List.set_cons_zero, List.set_cons_succ]
    refine wpAnyH_take (i := 3) (oi := { dst := some 38, op := .load _ (.tmp 3), type := _, pos := _, after := _, guard := _ }) (v := ?_) rfl (by kernel_rfl) (by kernel_rfl) (by kernel_rfl) (fun _ _ _ h => h) (Or.inl ⟨by rfl, ?_⟩) (by assumption) ?_
    rotate_left 1
    · intro v hSv
      have hv1 := LP.out v hSv
      clear hSv
      go_simp
      try with_reducible rfl
    try simp only [Act.put, List.setIfInBounds_toArray, List.set_cons_zero, List.set_cons_succ]
    refine wpAnyH_take (i := 5) (oi := { dst := some 40, op := .load _ (.tmp 6), type := _, pos := _, after := _, guard := _ }) (v := ?_) rfl (by kernel_rfl) (by kernel_rfl) (by kernel_rfl) (fun _ _ _ h => h) (Or.inl ⟨by rfl, ?_⟩) (by assumption) ?_
    rotate_left 1
    · intro v hSv
      have hv1 := LW.out v hSv
      clear hSv
      go_simp
      try with_reducible rfl
    try simp only [Act.put, List.setIfInBounds_toArray, List.set_cons_zero, List.set_cons_succ]
    refine wpAnyH_ready (rs := [4]) (by kernel_rfl) (by simp) ?_
    refine AllReadyH.cons (o := { dst := some 39, op := .call _, type := _, pos := _, after := _, guard := _ }) rfl (fun K hK => ?_) AllReadyH.nil
    go_simp
    refine (HEN.out _ (by assumption) HF1.out).mono ?_
    rintro e y2 ⟨m9, rfl, hb⟩
    have hb2 : Keep (fun i => i = b) Y y2 := (hb1).trans hb
    clear hb
    go_wp2_with fail
    refine hK.out _ _ (hb2) (fun hHeld => ?_)
    clear hK K
    try simp only [Act.put, List.setIfInBounds_toArray, List.set_cons_zero, List.set_cons_succ]
    refine wpAnyH_take (i := 6) (oi := { dst := some 41, op := .binOp .eql _ (.tmp 39) (.tmp 40) _, type := _, pos := _, after := _, guard := _ }) (v := ?_) rfl (by kernel_rfl) (by kernel_rfl) (by kernel_rfl) (fun _ _ _ h => h) (Or.inl ⟨by rfl, ?_⟩) (by assumption) ?_
    rotate_left 1
    · intro v hSv
      clear hSv
      go_simp
      try with_reducible rfl
    try simp only [Act.put, List.setIfInBounds_toArray, List.set_cons_zero, List.set_cons_succ]
    refine wpAnyH_take (i := 7) (oi := { dst := some 42, op := .pick (.tmp 36) (.tmp 41) (.const (.bool false)), type := _, pos := _, after := _, guard := _ }) (v := ?_) rfl (by kernel_rfl) (by kernel_rfl) (by kernel_rfl) (fun _ _ _ h => h) (Or.inl ⟨by rfl, ?_⟩) (by assumption) ?_
    rotate_left 1
    · intro v hSv
      clear hSv
      go_simp
      try with_reducible rfl
    try simp only [Act.put, List.setIfInBounds_toArray, List.set_cons_zero, List.set_cons_succ]
    refine wpAnyH_take (i := 8) (oi := { dst := some 4, op := .assign (.tmp 42), type := _, pos := _, after := _, guard := _ }) (v := ?_) rfl (by kernel_rfl) (by kernel_rfl) (by kernel_rfl) (fun _ _ _ h => h) (Or.inl ⟨by rfl, ?_⟩) (by assumption) ?_
    rotate_left 1
    · intro v hSv
      clear hSv
      go_simp
      try with_reducible rfl
    try simp only [Act.put, List.setIfInBounds_toArray, List.set_cons_zero, List.set_cons_succ]
    refine wpAnyH_done (by kernel_rfl) ?_ _
    go_wp2_with fail
    go_ret
    exact ⟨rfl, HBY.out _ (hb2)⟩
theorem ends16_w (fo : FoV) (n : Int) (p : Pf) (A : Option Addr) (c : Nat) (W : World) (hp : p.Ok) (hA : DS W A p.sib) (hc : p.sib.length ≤ c) (hvx : Vars W) :
    Calls Tryd.prog 3 #[.int .i64 n, .agg (pfC p (.slice A p.sib.length c))] W (Aye W) := by
  by_cases h : (n < 0 ∨ 256 < n) ∨ (p.kind ≠ 0 ∧ p.kind ≠ 1)
  · exact foldends16_out fo n p A c W hvx h
  · exact foldends16_in fo n p A c W hp hA hc hvx (by omega) (by omega) (by omega)
end Go.Proofs.YtnmbbfndboohjaaDoor
