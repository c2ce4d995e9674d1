/- alive of layer 15 over contracts: the walk (its last region by program: gen-tpl15-alive.py). -/
import Derived.Test.YtfeabjcnfgcmkaaDoorAD
import Derived.Deep.RegionHeld
namespace Go.Proofs.YtfeabjcnfgcmkaaDoor
open Go.RowKit

set_option linter.unusedSimpArgs false in
set_option maxHeartbeats 16000000 in
set_option maxRecDepth 100000 in
theorem alive15_c {M : World → Int → Tv → Prop} (nd : NdV M) (pv : PtV M) (pf : PfV M) (w : World) (hvx : Vars w) : Calls Tryd.prog 6 #[] w (Aye w) := by
  have HVX := Lib.hid hvx
  have HH := Lib.hid (hash_in 256 w (by decide) (by decide))
  clear hvx
  go_enter Tryd.func6, Tryd.ntmps6
  go_wp2_with fail
  refine HH.out.mono ?_
  rintro _ w1 ⟨b, rfl, hb, hH, hB⟩
  have HB1 := Lib.hid hB
  have HN1 := Lib.hid hb
  have HH1 := Lib.hid hH
  have HV1 := Lib.hid (HVX.out.below hB)
  have b7 := bldKey_7
  have HC := Lib.hid (pf.prove w1 b 256 0 [] .nil k7 HH1.out (by omega) HV1.out (nd.nil _ _) map_none rfl)
  obtain ⟨p, hp⟩ : ∃ p, p = prK 256 [] k7 (Tv.nil.dep k7 0) := ⟨_, rfl⟩
  rw [← hp] at HC
  have HP := Lib.hid hp
  clear hb hH hB HH HVX hp
  go_wp2_with fail
  refine HC.out.mono ?_
  rintro _ w2 ⟨A2, c2, m2, rfl, hN2, hm2, hH2, hK2⟩
  have hpo : p.Ok := by rw [HP.out]; exact prK_ok sep_none _
  have HB2 := Lib.hid (keep_new HB1.out HN1.out hK2)
  have HH2 := Lib.hid hH2
  have HV2 := Lib.hid (HV1.out.hs HH1.out hK2)
  have HD2 := Lib.hid (hN2.ds hpo.sib)
  have HC2 := Lib.hid hN2.1
  have HM2 := Lib.hid (show m2 ≤ 1000 by omega)
  have HPO := Lib.hid hpo
  have st2 := stPf_new w2 hpo zPf_ok A2 p.sib.length c2 (.slice none 0 0)
  clear hN2 hm2 hH2 hK2 hpo HC HB1 HH1 HV1
  have b2 := bldKey_255
  have b3 := bldEntry_z
  have b4 := bldEntry_ff
  have b5 := bsE_ff
  have b8 := bldKey_128
  go_wp2_with fail
  obtain ⟨Y, hY⟩ : ∃ Y, Y = (w2.alloc (.cells (pfC p (.slice A2 p.sib.length c2)) 29)).alloc (.cells (enC e0 ++ enC eF).toArray 47) := ⟨_, rfl⟩
  have hbY : Below w2.heap.size w2 Y := by rw [hY]; exact Bt.two_below _ _ _
  have hEY : EA Y (some ⟨w2.heap.size + 1, 0, none⟩) [e0, eF] := by
    have h := ea_ff (w := w2.alloc (.cells (pfC p (.slice A2 p.sib.length c2)) 29))
    rw [show (w2.alloc (.cells (pfC p (.slice A2 p.sib.length c2)) 29)).heap.size = w2.heap.size + 1 by simp] at h
    rw [hY]
    exact h
  have hPY : PfAt Y w2.heap.size p (.slice A2 p.sib.length c2) := by rw [hY]; exact (PfAt.one w2 p _).below (Bt.one_below _ _) (by simp)
  rw [← hY]
  have HBY := Lib.hid (keeps HB2.out hbY)
  have HHY := Lib.hid (HH2.out.keep (Keep.of_below (L := fun _ => False) hbY) fun h => h)
  have HVY := Lib.hid (HV2.out.below hbY)
  have HDY := Lib.hid (HD2.out.below hbY)
  have HPY := Lib.hid hPY
  have HBN : Hid (b < w2.heap.size) := lt_of_heap HH2.out
  have HAL := Lib.hid (pv.all Y b 256 m2 [] .nil (some ⟨w2.heap.size + 1, 0, none⟩) 2 [e0, eF] HHY.out (by have := HM2.out; omega) HVY.out (nd.nil _ _) map_none (Nat.zero_le _) hEY (by decide) (fun e he => by
    simp only [List.mem_cons, List.not_mem_nil, or_false] at he
    rcases he with rfl | rfl
    · exact Nat.zero_le _
    · exact Nat.zero_le _))
  clear hY hbY hEY hPY HB2 HH2 HV2 HD2 st2 b2 b3 b4 b5
  refine HAL.out.mono ?_
  rintro _ w3 ⟨T, rfl, hI, hMd⟩
  rw [put_ff] at hI
  obtain ⟨m3, hm3, hH3⟩ := hMd.hs
  have HB3 := Lib.hid (keep_new HBY.out HN1.out hMd.keep)
  have HV3 := Lib.hid (HVY.out.hs HHY.out hMd.keep)
  have HD3 := Lib.hid (HDY.out.hs HHY.out hMd.keep)
  have HP3 := Lib.hid (HPY.out.keep hMd.keep (by have := HBN.out; omega))
  have HH3 := Lib.hid hH3
  have HM3 : Hid (m3 ≤ 100000) := by show _ ≤ _; have := HM2.out; have h2 : [e0, eF].length = 2 := rfl; rw [h2] at hm3; omega
  have HI := Lib.hid hI
  have HC3 := Lib.hid (pf.prove w3 b 256 m3 [E0, EF] T k128 hH3 (by have := HM3.out; omega) HV3.out hMd.ms hI rfl)
  rw [dep_ff hI] at HC3
  obtain ⟨q, hq⟩ : ∃ q, q = prK 256 [E0, EF] k128 1 := ⟨_, rfl⟩
  have HX : Hid (Ex15 p q) := by
    show Ex15 p q
    rw [HP.out, hq]
    exact ex15 hI.sep
  rw [← hq] at HC3
  have HQO := Lib.hid HX.out.qo
  clear hI hm3 hH3 hMd HAL HBY HHY HVY HDY HPY hq
  go_wp2_with fail
  refine HC3.out.mono ?_
  rintro _ w4 ⟨A4, c4, m4, rfl, hN4, hm4, hH4, hK4⟩
  have HB4 := Lib.hid (keep_new HB3.out HN1.out hK4)
  have HH4 := Lib.hid hH4
  have HV4 := Lib.hid (HV3.out.hs HH3.out hK4)
  have HD4 := Lib.hid (HD3.out.hs HH3.out hK4)
  have HP4 := Lib.hid (HP3.out.keep hK4 (by have := HBN.out; omega))
  have HE4 := Lib.hid (hN4.ds HQO.out.sib)
  have HC4 := Lib.hid hN4.1
  have HM4 := Lib.hid (show m4 ≤ 200000 by have := HM3.out; omega)
  have st4 := stPf_new w4 HQO.out zPf_ok A4 q.sib.length c4 (.slice none 0 0)
  clear hN4 hm4 hH4 hK4 HC3 HB3 HH3 HV3 HD3 HP3
  obtain ⟨Z, hZ⟩ : ∃ Z, Z = w4.alloc (.cells (pfC q (.slice A4 q.sib.length c4)) 29) := ⟨_, rfl⟩
  rw [← hZ] at st4
  have hbZ : Below w4.heap.size w4 Z := by rw [hZ]; exact Bt.one_below _ _
  have HQZ : Hid (PfAt Z w4.heap.size q (.slice A4 q.sib.length c4)) := by show PfAt _ _ _ _; rw [hZ]; exact PfAt.one _ _ _
  have HBZ := Lib.hid (keeps HB4.out hbZ)
  have HHZ := Lib.hid (HH4.out.keep (Keep.of_below (L := fun _ => False) hbZ) fun h => h)
  have HVZ := Lib.hid (HV4.out.below hbZ)
  have HDZ := Lib.hid (HD4.out.below hbZ)
  have HEZ := Lib.hid (HE4.out.below hbZ)
  have HPZ := Lib.hid (HP4.out.below hbZ HP4.out.lt)
  have lq := HQZ.out.ld HQO.out
  have HCE := Lib.hid (pf.expand Z b 256 m4 q A4 c4 HHZ.out (by have := HM4.out; omega) HVZ.out HQO.out HEZ.out HC4.out (by have := HX.out.qs; omega) HX.out.chk)
  obtain ⟨N, hN⟩ : ∃ N, N = (expL 256 q.bm q.sib q.dep.toNat).length := ⟨_, rfl⟩
  rw [← hN] at HCE
  have xn : ((N : Int) == 1) = true := by rw [hN, HX.out.ex]; rfl
  have HW4 : Hid (b < w4.heap.size ∧ w2.heap.size < w4.heap.size) := ⟨lt_of_heap HH4.out, HP4.out.lt⟩
  clear hZ hbZ HB4 HH4 HV4 HD4 HE4 HP4 hN
  go_wp2_with fail
  refine HCE.out.mono ?_
  rintro _ X ⟨A5, c5, m5, rfl, _, _, hH5, hK5⟩
  have hbw : b ≠ w4.heap.size := by have := HW4.out.1; omega
  have HBX : Hid (∀ w', Below X.heap.size X w' → Below w.heap.size w w') := fun w' h => keeps (keep_new HBZ.out HN1.out hK5) h
  have hP5 := HPZ.out.keep hK5 (by have := HBN.out; omega)
  have hQ5 := HQZ.out.keep hK5 (by omega)
  have HD5 := Lib.hid (HDZ.out.hs HHZ.out hK5)
  have HE5 := Lib.hid (HEZ.out.hs HHZ.out hK5)
  have LP0 : Hid (∀ v, Below X.heap.size X v → v.cell? ⟨w2.heap.size, 0, none⟩ = some (.int .i64 p.kind)) := fun v h => (hP5.below h hP5.lt).kind
  have LP1 : Hid (∀ v, Below X.heap.size X v → v.cell? ⟨w2.heap.size, 1, none⟩ = some (.int .i64 p.dep)) := fun v h => (hP5.below h hP5.lt).dep
  have LP4 : Hid (∀ v, Below X.heap.size X v → v.cell? ⟨w2.heap.size, 98, none⟩ = some (.slice A2 p.sib.length c2)) := fun v h => (hP5.below h hP5.lt).sib HPO.out
  have LPL : Hid (∀ v, Below X.heap.size X v → ldA 29 v (.pointer (some ⟨w2.heap.size, 0, none⟩)) = .ok (.value (.agg (pfC p (.slice A2 p.sib.length c2)))) v) := fun v h => (hP5.below h hP5.lt).ld HPO.out
  have LQ0 : Hid (∀ v, Below X.heap.size X v → v.cell? ⟨w4.heap.size, 0, none⟩ = some (.int .i64 q.kind)) := fun v h => (hQ5.below h hQ5.lt).kind
  have LQ1 : Hid (∀ v, Below X.heap.size X v → v.cell? ⟨w4.heap.size, 1, none⟩ = some (.int .i64 q.dep)) := fun v h => (hQ5.below h hQ5.lt).dep
  have LQ4 : Hid (∀ v, Below X.heap.size X v → v.cell? ⟨w4.heap.size, 98, none⟩ = some (.slice A4 q.sib.length c4)) := fun v h => (hQ5.below h hQ5.lt).sib HQO.out
  have LQL : Hid (∀ v, Below X.heap.size X v → ldA 29 v (.pointer (some ⟨w4.heap.size, 0, none⟩)) = .ok (.value (.agg (pfC q (.slice A4 q.sib.length c4)))) v) := fun v h => (hQ5.below h hQ5.lt).ld HQO.out
  have f1 : (p.kind == 0) = true := by rw [HX.out.pk]; rfl
  have f2 : (p.dep == 0) = true := by rw [HX.out.pd]; rfl
  have f3 : ((p.sib.length : Int) == 0) = true := by rw [HX.out.ps]; rfl
  have f4 : (q.kind == 1) = true := by rw [HX.out.qk]; rfl
  have f5 : (q.dep == 1) = true := by rw [HX.out.qd]; rfl
  have f6 : ((q.sib.length : Int) == 1) = true := by rw [HX.out.qs]; rfl
  have b2 := bldKey_255
  have bz := bldDig_none
  have HS1 : Hid (∀ w, Calls Tryd.prog 9 #[.agg (pfC q (.slice A4 q.sib.length c4)), .agg (bA k128), .agg (bA z26), .bool false] w fun e w' => e = .returned (.bool true) ∧ Below w.heap.size w w') := fun w => by
    have := pf.supports w q A4 c4 k128 z26 false HQO.out rfl rfl
    rwa [HX.out.yes] at this
  have HS2 : Hid (∀ w, Calls Tryd.prog 9 #[.agg (pfC q (.slice A4 q.sib.length c4)), .agg (bA k255), .agg (bA z26), .bool false] w fun e w' => e = .returned (.bool false) ∧ Below w.heap.size w w') := fun w => by
    have := pf.supports w q A4 c4 k255 z26 false HQO.out rfl rfl
    rwa [HX.out.no] at this
  have HCK : Hid (∀ w, DS w A4 q.sib → Calls Tryd.prog 7 #[.agg (pfC q (.slice A4 q.sib.length c4))] w fun e w' => e = .returned (.int .i64 0) ∧ Below w.heap.size w w') := fun w h => by
    have := pf.check w q A4 c4 HQO.out h HC4.out (by have := HX.out.qs; omega)
    rwa [HX.out.chk] at this
  have HCL : Hid (∀ w, DS w A4 q.sib → Calls Tryd.prog 12 #[.agg (pfC q (.slice A4 q.sib.length c4))] w fun e w' => ∃ A' c', e = .returned (.agg (pfC q (.slice A' q.sib.length c'))) ∧ NewD w' w.heap.size A' c' q.sib ∧ Below w.heap.size w w') := fun w h => pf.clone w q A4 c4 HQO.out h HC4.out (by have := HX.out.qs; omega)
  have HQQ : Hid (∀ w A c, DS w A q.sib → DS w A4 q.sib → q.sib.length ≤ c → Calls Tryd.prog 11 #[.agg (pfC q (.slice A q.sib.length c)), .agg (pfC q (.slice A4 q.sib.length c4))] w fun e w' => e = .returned (.bool true) ∧ Below w.heap.size w w') := fun w A c h1 h2 h3 => by
    have := pf.equal w q q A A4 c c4 HQO.out HQO.out h1 h2 h3 HC4.out (by have := HX.out.qs; omega) (by have := HX.out.qs; omega)
    rwa [HX.out.eq] at this
  have HPQ : Hid (∀ w, DS w A2 p.sib → DS w A4 q.sib → Calls Tryd.prog 11 #[.agg (pfC p (.slice A2 p.sib.length c2)), .agg (pfC q (.slice A4 q.sib.length c4))] w fun e w' => e = .returned (.bool false) ∧ Below w.heap.size w w') := fun w h1 h2 => by
    have := pf.equal w p q A2 A4 c2 c4 HPO.out HQO.out h1 h2 HC2.out HC4.out (by have := HX.out.ps; omega) (by have := HX.out.qs; omega)
    rwa [HX.out.ne] at this
  clear hH5 hK5 hbw HCE HBZ HPZ HQZ HDZ HEZ HHZ HVZ st4 lq hP5 hQ5 b7
  go_wp2_with fail
  refine wp_region_held_drew (S := fun w' => Below X.heap.size X w') (by kernel_rfl) ((Below.refl _ _).drew) (fun hHeld => ?_)
  have hb0 : Below X.heap.size X X.drew := (Below.refl _ _).drew
  refine wpAnyH_take (i := 0) (oi := { dst := some 27, op := .fieldAddr _ (.tmp 2) 0, type := _, pos := _, after := _, guard := _ }) (v := ?_) rfl (by kernel_rfl) (by kernel_rfl) (by kernel_rfl) (fun _ _ _ h => h) (Or.inl ⟨by rfl, ?_⟩) (by assumption) ?_
  rotate_left 1
  · intro v hSv
    clear hSv
    go_simp
    try with_reducible rfl
  try simp only [Act.put, List.setIfInBounds_toArray, List.set_cons_zero, List.set_cons_succ]
  refine wpAnyH_take (i := 1) (oi := { dst := some 28, op := .load _ (.tmp 27), type := _, pos := _, after := _, guard := _ }) (v := ?_) rfl (by kernel_rfl) (by kernel_rfl) (by kernel_rfl) (fun _ _ _ h => h) (Or.inl ⟨by rfl, ?_⟩) (by assumption) ?_
  rotate_left 1
  · intro v hSv
    have hv1 := LP0.out v hSv
    clear hSv
    go_simp
    try with_reducible rfl
  try simp only [Act.put, List.setIfInBounds_toArray, List.set_cons_zero, List.set_cons_succ]
  refine wpAnyH_take (i := 2) (oi := { dst := some 29, op := .binOp .eql _ (.tmp 28) (.const (.int .i64 0)) _, type := _, pos := _, after := _, guard := _ }) (v := ?_) rfl (by kernel_rfl) (by kernel_rfl) (by kernel_rfl) (fun _ _ _ h => h) (Or.inl ⟨by rfl, ?_⟩) (by assumption) ?_
  rotate_left 1
  · intro v hSv
    clear hSv
    go_simp
    try with_reducible rfl
  try simp only [Act.put, List.setIfInBounds_toArray, List.set_cons_zero, List.set_cons_succ]
  refine wpAnyH_take (i := 3) (oi := { dst := some 30, op := .move (.tmp 29), type := _, pos := _, after := _, guard := _ }) (v := ?_) rfl (by kernel_rfl) (by kernel_rfl) (by kernel_rfl) (fun _ _ _ h => h) (Or.inl ⟨by rfl, ?_⟩) (by assumption) ?_
  rotate_left 1
  · intro v hSv
    clear hSv
    go_simp
    try with_reducible rfl
  try simp only [Act.put, List.setIfInBounds_toArray, List.set_cons_zero, List.set_cons_succ]
  refine wpAnyH_take (i := 4) (oi := { dst := some 31, op := .fieldAddr _ (.tmp 2) 1, type := _, pos := _, after := _, guard := _ }) (v := ?_) rfl (by kernel_rfl) (by kernel_rfl) (by kernel_rfl) (fun _ _ _ h => h) (Or.inl ⟨by rfl, ?_⟩) (by assumption) ?_
  rotate_left 1
  · intro v hSv
    clear hSv
    go_simp
    try with_reducible rfl
  try simp only [Act.put, List.setIfInBounds_toArray, List.set_cons_zero, List.set_cons_succ]
  refine wpAnyH_take (i := 5) (oi := { dst := some 32, op := .load _ (.tmp 31), type := _, pos := _, after := _, guard := _ }) (v := ?_) rfl (by kernel_rfl) (by kernel_rfl) (by kernel_rfl) (fun _ _ _ h => h) (Or.inl ⟨by rfl, ?_⟩) (by assumption) ?_
  rotate_left 1
  · intro v hSv
    have hv1 := LP1.out v hSv
    clear hSv
    go_simp
    try with_reducible rfl
  try simp only [Act.put, List.setIfInBounds_toArray, List.set_cons_zero, List.set_cons_succ]
  refine wpAnyH_take (i := 6) (oi := { dst := some 33, op := .binOp .eql _ (.tmp 32) (.const (.int .i64 0)) _, type := _, pos := _, after := _, guard := _ }) (v := ?_) rfl (by kernel_rfl) (by kernel_rfl) (by kernel_rfl) (fun _ _ _ h => h) (Or.inl ⟨by rfl, ?_⟩) (by assumption) ?_
  rotate_left 1
  · intro v hSv
    clear hSv
    go_simp
    try with_reducible rfl
  try simp only [Act.put, List.setIfInBounds_toArray, List.set_cons_zero, List.set_cons_succ]
  refine wpAnyH_take (i := 7) (oi := { dst := some 34, op := .pick (.tmp 30) (.tmp 33) (.const (.bool false)), type := _, pos := _, after := _, guard := _ }) (v := ?_) rfl (by kernel_rfl) (by kernel_rfl) (by kernel_rfl) (fun _ _ _ h => h) (Or.inl ⟨by rfl, ?_⟩) (by assumption) ?_
  rotate_left 1
  · intro v hSv
    clear hSv
    go_simp
    try with_reducible rfl
  try simp only [Act.put, List.setIfInBounds_toArray, List.set_cons_zero, List.set_cons_succ]
  refine wpAnyH_take (i := 8) (oi := { dst := some 35, op := .move (.tmp 34), type := _, pos := _, after := _, guard := _ }) (v := ?_) rfl (by kernel_rfl) (by kernel_rfl) (by kernel_rfl) (fun _ _ _ h => h) (Or.inl ⟨by rfl, ?_⟩) (by assumption) ?_
  rotate_left 1
  · intro v hSv
    clear hSv
    go_simp
    try with_reducible rfl
  try simp only [Act.put, List.setIfInBounds_toArray, List.set_cons_zero, List.set_cons_succ]
  refine wpAnyH_take (i := 9) (oi := { dst := some 36, op := .fieldAddr _ (.tmp 2) 4, type := _, pos := _, after := _, guard := _ }) (v := ?_) rfl (by kernel_rfl) (by kernel_rfl) (by kernel_rfl) (fun _ _ _ h => h) (Or.inl ⟨by rfl, ?_⟩) (by assumption) ?_
  rotate_left 1
  · intro v hSv
    clear hSv
    go_simp
    try with_reducible rfl
  try simp only [Act.put, List.setIfInBounds_toArray, List.set_cons_zero, List.set_cons_succ]
  refine wpAnyH_take (i := 10) (oi := { dst := some 37, op := .load _ (.tmp 36), type := _, pos := _, after := _, guard := _ }) (v := ?_) rfl (by kernel_rfl) (by kernel_rfl) (by kernel_rfl) (fun _ _ _ h => h) (Or.inl ⟨by rfl, ?_⟩) (by assumption) ?_
  rotate_left 1
  · intro v hSv
    have hv1 := LP4.out v hSv
    clear hSv
    go_simp
    try with_reducible rfl
  try simp only [Act.put, List.setIfInBounds_toArray, List.set_cons_zero, List.set_cons_succ]
  refine wpAnyH_take (i := 11) (oi := { dst := some 38, op := .call _, type := _, pos := _, after := _, guard := _ }) (v := ?_) rfl (by kernel_rfl) (by kernel_rfl) (by kernel_rfl) (fun _ _ _ h => h) (Or.inl ⟨by rfl, ?_⟩) (by assumption) ?_
  rotate_left 1
  · intro v hSv
    clear hSv
    go_simp
    try with_reducible rfl
  try simp only [Act.put, List.setIfInBounds_toArray, List.set_cons_zero, List.set_cons_succ]
  refine wpAnyH_take (i := 12) (oi := { dst := some 39, op := .binOp .eql _ (.tmp 38) (.const (.int .i64 0)) _, type := _, pos := _, after := _, guard := _ }) (v := ?_) rfl (by kernel_rfl) (by kernel_rfl) (by kernel_rfl) (fun _ _ _ h => h) (Or.inl ⟨by rfl, ?_⟩) (by assumption) ?_
  rotate_left 1
  · intro v hSv
    clear hSv
    go_simp
    try with_reducible rfl
  try simp only [Act.put, List.setIfInBounds_toArray, List.set_cons_zero, List.set_cons_succ]
  refine wpAnyH_take (i := 13) (oi := { dst := some 40, op := .pick (.tmp 35) (.tmp 39) (.const (.bool false)), type := _, pos := _, after := _, guard := _ }) (v := ?_) rfl (by kernel_rfl) (by kernel_rfl) (by kernel_rfl) (fun _ _ _ h => h) (Or.inl ⟨by rfl, ?_⟩) (by assumption) ?_
  rotate_left 1
  · intro v hSv
    clear hSv
    go_simp
    try with_reducible rfl
  try simp only [Act.put, List.setIfInBounds_toArray, List.set_cons_zero, List.set_cons_succ]
  refine wpAnyH_take (i := 14) (oi := { dst := some 41, op := .move (.tmp 40), type := _, pos := _, after := _, guard := _ }) (v := ?_) rfl (by kernel_rfl) (by kernel_rfl) (by kernel_rfl) (fun _ _ _ h => h) (Or.inl ⟨by rfl, ?_⟩) (by assumption) ?_
  rotate_left 1
  · intro v hSv
    clear hSv
    go_simp
    try with_reducible rfl
  try simp only [Act.put, List.setIfInBounds_toArray, List.set_cons_zero, List.set_cons_succ]
  refine wpAnyH_take (i := 15) (oi := { dst := some 42, op := .fieldAddr _ (.tmp 3) 0, type := _, pos := _, after := _, guard := _ }) (v := ?_) rfl (by kernel_rfl) (by kernel_rfl) (by kernel_rfl) (fun _ _ _ h => h) (Or.inl ⟨by rfl, ?_⟩) (by assumption) ?_
  rotate_left 1
  · intro v hSv
    clear hSv
    go_simp
    try with_reducible rfl
  try simp only [Act.put, List.setIfInBounds_toArray, List.set_cons_zero, List.set_cons_succ]
  refine wpAnyH_take (i := 16) (oi := { dst := some 43, op := .load _ (.tmp 42), type := _, pos := _, after := _, guard := _ }) (v := ?_) rfl (by kernel_rfl) (by kernel_rfl) (by kernel_rfl) (fun _ _ _ h => h) (Or.inl ⟨by rfl, ?_⟩) (by assumption) ?_
  rotate_left 1
  · intro v hSv
    have hv1 := LQ0.out v hSv
    clear hSv
    go_simp
    try with_reducible rfl
  try simp only [Act.put, List.setIfInBounds_toArray, List.set_cons_zero, List.set_cons_succ]
  refine wpAnyH_take (i := 17) (oi := { dst := some 44, op := .binOp .eql _ (.tmp 43) (.const (.int .i64 1)) _, type := _, pos := _, after := _, guard := _ }) (v := ?_) rfl (by kernel_rfl) (by kernel_rfl) (by kernel_rfl) (fun _ _ _ h => h) (Or.inl ⟨by rfl, ?_⟩) (by assumption) ?_
  rotate_left 1
  · intro v hSv
    clear hSv
    go_simp
    try with_reducible rfl
  try simp only [Act.put, List.setIfInBounds_toArray, List.set_cons_zero, List.set_cons_succ]
  refine wpAnyH_take (i := 18) (oi := { dst := some 45, op := .pick (.tmp 41) (.tmp 44) (.const (.bool false)), type := _, pos := _, after := _, guard := _ }) (v := ?_) rfl (by kernel_rfl) (by kernel_rfl) (by kernel_rfl) (fun _ _ _ h => h) (Or.inl ⟨by rfl, ?_⟩) (by assumption) ?_
  rotate_left 1
  · intro v hSv
    clear hSv
    go_simp
    try with_reducible rfl
  try simp only [Act.put, List.setIfInBounds_toArray, List.set_cons_zero, List.set_cons_succ]
  refine wpAnyH_take (i := 19) (oi := { dst := some 46, op := .move (.tmp 45), type := _, pos := _, after := _, guard := _ }) (v := ?_) rfl (by kernel_rfl) (by kernel_rfl) (by kernel_rfl) (fun _ _ _ h => h) (Or.inl ⟨by rfl, ?_⟩) (by assumption) ?_
  rotate_left 1
  · intro v hSv
    clear hSv
    go_simp
    try with_reducible rfl
  try simp only [Act.put, List.setIfInBounds_toArray, List.set_cons_zero, List.set_cons_succ]
  refine wpAnyH_take (i := 20) (oi := { dst := some 47, op := .fieldAddr _ (.tmp 3) 1, type := _, pos := _, after := _, guard := _ }) (v := ?_) rfl (by kernel_rfl) (by kernel_rfl) (by kernel_rfl) (fun _ _ _ h => h) (Or.inl ⟨by rfl, ?_⟩) (by assumption) ?_
  rotate_left 1
  · intro v hSv
    clear hSv
    go_simp
    try with_reducible rfl
  try simp only [Act.put, List.setIfInBounds_toArray, List.set_cons_zero, List.set_cons_succ]
  refine wpAnyH_take (i := 21) (oi := { dst := some 48, op := .load _ (.tmp 47), type := _, pos := _, after := _, guard := _ }) (v := ?_) rfl (by kernel_rfl) (by kernel_rfl) (by kernel_rfl) (fun _ _ _ h => h) (Or.inl ⟨by rfl, ?_⟩) (by assumption) ?_
  rotate_left 1
  · intro v hSv
    have hv1 := LQ1.out v hSv
    clear hSv
    go_simp
    try with_reducible rfl
  try simp only [Act.put, List.setIfInBounds_toArray, List.set_cons_zero, List.set_cons_succ]
  refine wpAnyH_take (i := 22) (oi := { dst := some 49, op := .binOp .eql _ (.tmp 48) (.const (.int .i64 1)) _, type := _, pos := _, after := _, guard := _ }) (v := ?_) rfl (by kernel_rfl) (by kernel_rfl) (by kernel_rfl) (fun _ _ _ h => h) (Or.inl ⟨by rfl, ?_⟩) (by assumption) ?_
  rotate_left 1
  · intro v hSv
    clear hSv
    go_simp
    try with_reducible rfl
  try simp only [Act.put, List.setIfInBounds_toArray, List.set_cons_zero, List.set_cons_succ]
  refine wpAnyH_take (i := 23) (oi := { dst := some 50, op := .pick (.tmp 46) (.tmp 49) (.const (.bool false)), type := _, pos := _, after := _, guard := _ }) (v := ?_) rfl (by kernel_rfl) (by kernel_rfl) (by kernel_rfl) (fun _ _ _ h => h) (Or.inl ⟨by rfl, ?_⟩) (by assumption) ?_
  rotate_left 1
  · intro v hSv
    clear hSv
    go_simp
    try with_reducible rfl
  try simp only [Act.put, List.setIfInBounds_toArray, List.set_cons_zero, List.set_cons_succ]
  refine wpAnyH_take (i := 24) (oi := { dst := some 51, op := .move (.tmp 50), type := _, pos := _, after := _, guard := _ }) (v := ?_) rfl (by kernel_rfl) (by kernel_rfl) (by kernel_rfl) (fun _ _ _ h => h) (Or.inl ⟨by rfl, ?_⟩) (by assumption) ?_
  rotate_left 1
  · intro v hSv
    clear hSv
    go_simp
    try with_reducible rfl
  try simp only [Act.put, List.setIfInBounds_toArray, List.set_cons_zero, List.set_cons_succ]
  refine wpAnyH_take (i := 25) (oi := { dst := some 52, op := .fieldAddr _ (.tmp 3) 4, type := _, pos := _, after := _, guard := _ }) (v := ?_) rfl (by kernel_rfl) (by kernel_rfl) (by kernel_rfl) (fun _ _ _ h => h) (Or.inl ⟨by rfl, ?_⟩) (by assumption) ?_
  rotate_left 1
  · intro v hSv
    clear hSv
    go_simp
    try with_reducible rfl
  try simp only [Act.put, List.setIfInBounds_toArray, List.set_cons_zero, List.set_cons_succ]
  refine wpAnyH_take (i := 26) (oi := { dst := some 53, op := .load _ (.tmp 52), type := _, pos := _, after := _, guard := _ }) (v := ?_) rfl (by kernel_rfl) (by kernel_rfl) (by kernel_rfl) (fun _ _ _ h => h) (Or.inl ⟨by rfl, ?_⟩) (by assumption) ?_
  rotate_left 1
  · intro v hSv
    have hv1 := LQ4.out v hSv
    clear hSv
    go_simp
    try with_reducible rfl
  try simp only [Act.put, List.setIfInBounds_toArray, List.set_cons_zero, List.set_cons_succ]
  refine wpAnyH_take (i := 27) (oi := { dst := some 54, op := .call _, type := _, pos := _, after := _, guard := _ }) (v := ?_) rfl (by kernel_rfl) (by kernel_rfl) (by kernel_rfl) (fun _ _ _ h => h) (Or.inl ⟨by rfl, ?_⟩) (by assumption) ?_
  rotate_left 1
  · intro v hSv
    clear hSv
    go_simp
    try with_reducible rfl
  try simp only [Act.put, List.setIfInBounds_toArray, List.set_cons_zero, List.set_cons_succ]
  refine wpAnyH_take (i := 28) (oi := { dst := some 55, op := .binOp .eql _ (.tmp 54) (.const (.int .i64 1)) _, type := _, pos := _, after := _, guard := _ }) (v := ?_) rfl (by kernel_rfl) (by kernel_rfl) (by kernel_rfl) (fun _ _ _ h => h) (Or.inl ⟨by rfl, ?_⟩) (by assumption) ?_
  rotate_left 1
  · intro v hSv
    clear hSv
    go_simp
    try with_reducible rfl
  try simp only [Act.put, List.setIfInBounds_toArray, List.set_cons_zero, List.set_cons_succ]
  refine wpAnyH_take (i := 29) (oi := { dst := some 56, op := .pick (.tmp 51) (.tmp 55) (.const (.bool false)), type := _, pos := _, after := _, guard := _ }) (v := ?_) rfl (by kernel_rfl) (by kernel_rfl) (by kernel_rfl) (fun _ _ _ h => h) (Or.inl ⟨by rfl, ?_⟩) (by assumption) ?_
  rotate_left 1
  · intro v hSv
    clear hSv
    go_simp
    try with_reducible rfl
  try simp only [Act.put, List.setIfInBounds_toArray, List.set_cons_zero, List.set_cons_succ]
  refine wpAnyH_take (i := 30) (oi := { dst := some 57, op := .move (.tmp 56), type := _, pos := _, after := _, guard := _ }) (v := ?_) rfl (by kernel_rfl) (by kernel_rfl) (by kernel_rfl) (fun _ _ _ h => h) (Or.inl ⟨by rfl, ?_⟩) (by assumption) ?_
  rotate_left 1
  · intro v hSv
    clear hSv
    go_simp
    try with_reducible rfl
  try simp only [Act.put, List.setIfInBounds_toArray, List.set_cons_zero, List.set_cons_succ]
  refine wpAnyH_take (i := 31) (oi := { dst := some 58, op := .load _ (.tmp 3), type := _, pos := _, after := _, guard := _ }) (v := ?_) rfl (by kernel_rfl) (by kernel_rfl) (by kernel_rfl) (fun _ _ _ h => h) (Or.inl ⟨by rfl, ?_⟩) (by assumption) ?_
  rotate_left 1
  · intro v hSv
    have hv1 := LQL.out v hSv
    clear hSv
    go_simp
    try with_reducible rfl
  try simp only [Act.put, List.setIfInBounds_toArray, List.set_cons_zero, List.set_cons_succ]
  refine wpAnyH_take (i := 32) (oi := { dst := some 59, op := .build _ #[(0, .const (.int .u8 128))], type := _, pos := _, after := _, guard := _ }) (v := ?_) rfl (by kernel_rfl) (by kernel_rfl) (by kernel_rfl) (fun _ _ _ h => h) (Or.inl ⟨by rfl, ?_⟩) (by assumption) ?_
  rotate_left 1
  · intro v hSv
    clear hSv
    go_simp
    try with_reducible rfl
  try simp only [Act.put, List.setIfInBounds_toArray, List.set_cons_zero, List.set_cons_succ]
  refine wpAnyH_take (i := 33) (oi := { dst := some 60, op := .build _ #[], type := _, pos := _, after := _, guard := _ }) (v := ?_) rfl (by kernel_rfl) (by kernel_rfl) (by kernel_rfl) (fun _ _ _ h => h) (Or.inl ⟨by rfl, ?_⟩) (by assumption) ?_
  rotate_left 1
  · intro v hSv
    clear hSv
    go_simp
    try with_reducible rfl
  try simp only [Act.put, List.setIfInBounds_toArray, List.set_cons_zero, List.set_cons_succ]
  refine wpAnyH_ready (rs := [34]) (by kernel_rfl) (by simp) ?_
  refine AllReadyH.cons (o := { dst := some 61, op := .call _, type := _, pos := _, after := _, guard := _ }) rfl (fun K hK => ?_) AllReadyH.nil
  go_simp
  refine (HS1.out _).mono ?_
  rintro e y1 ⟨rfl, hb⟩
  have hb1 : Below X.heap.size X y1 := keeps (hb0) hb
  clear hb
  go_wp2_with fail
  refine hK.out _ _ (hb1) (fun hHeld => ?_)
  clear hK K
  try simp only [Act.put, List.setIfInBounds_toArray, List.set_cons_zero, List.set_cons_succ]
  refine wpAnyH_take (i := 35) (oi := { dst := some 62, op := .pick (.tmp 57) (.tmp 61) (.const (.bool false)), type := _, pos := _, after := _, guard := _ }) (v := ?_) rfl (by kernel_rfl) (by kernel_rfl) (by kernel_rfl) (fun _ _ _ h => h) (Or.inl ⟨by rfl, ?_⟩) (by assumption) ?_
  rotate_left 1
  · intro v hSv
    clear hSv
    go_simp
    try with_reducible rfl
  try simp only [Act.put, List.setIfInBounds_toArray, List.set_cons_zero, List.set_cons_succ]
  refine wpAnyH_take (i := 36) (oi := { dst := some 63, op := .move (.tmp 62), type := _, pos := _, after := _, guard := _ }) (v := ?_) rfl (by kernel_rfl) (by kernel_rfl) (by kernel_rfl) (fun _ _ _ h => h) (Or.inl ⟨by rfl, ?_⟩) (by assumption) ?_
  rotate_left 1
  · intro v hSv
    clear hSv
    go_simp
    try with_reducible rfl
  try simp only [Act.put, List.setIfInBounds_toArray, List.set_cons_zero, List.set_cons_succ]
  refine wpAnyH_take (i := 37) (oi := { dst := some 64, op := .load _ (.tmp 3), type := _, pos := _, after := _, guard := _ }) (v := ?_) rfl (by kernel_rfl) (by kernel_rfl) (by kernel_rfl) (fun _ _ _ h => h) (Or.inl ⟨by rfl, ?_⟩) (by assumption) ?_
  rotate_left 1
  · intro v hSv
    have hv1 := LQL.out v hSv
    clear hSv
    go_simp
    try with_reducible rfl
  try simp only [Act.put, List.setIfInBounds_toArray, List.set_cons_zero, List.set_cons_succ]
  refine wpAnyH_take (i := 38) (oi := { dst := some 65, op := .build _ #[(0, .const (.int .u8 255))], type := _, pos := _, after := _, guard := _ }) (v := ?_) rfl (by kernel_rfl) (by kernel_rfl) (by kernel_rfl) (fun _ _ _ h => h) (Or.inl ⟨by rfl, ?_⟩) (by assumption) ?_
  rotate_left 1
  · intro v hSv
    clear hSv
    go_simp
    try with_reducible rfl
  try simp only [Act.put, List.setIfInBounds_toArray, List.set_cons_zero, List.set_cons_succ]
  refine wpAnyH_take (i := 39) (oi := { dst := some 66, op := .build _ #[], type := _, pos := _, after := _, guard := _ }) (v := ?_) rfl (by kernel_rfl) (by kernel_rfl) (by kernel_rfl) (fun _ _ _ h => h) (Or.inl ⟨by rfl, ?_⟩) (by assumption) ?_
  rotate_left 1
  · intro v hSv
    clear hSv
    go_simp
    try with_reducible rfl
  try simp only [Act.put, List.setIfInBounds_toArray, List.set_cons_zero, List.set_cons_succ]
  refine wpAnyH_ready (rs := [40]) (by kernel_rfl) (by simp) ?_
  refine AllReadyH.cons (o := { dst := some 67, op := .call _, type := _, pos := _, after := _, guard := _ }) rfl (fun K hK => ?_) AllReadyH.nil
  go_simp
  refine (HS2.out _).mono ?_
  rintro e y2 ⟨rfl, hb⟩
  have hb2 : Below X.heap.size X y2 := keeps (hb1) hb
  clear hb
  go_wp2_with fail
  refine hK.out _ _ (hb2) (fun hHeld => ?_)
  clear hK K
  try simp only [Act.put, List.setIfInBounds_toArray, List.set_cons_zero, List.set_cons_succ]
  refine wpAnyH_take (i := 41) (oi := { dst := some 68, op := .unOp .not _ (.tmp 67), type := _, pos := _, after := _, guard := _ }) (v := ?_) rfl (by kernel_rfl) (by kernel_rfl) (by kernel_rfl) (fun _ _ _ h => h) (Or.inl ⟨by rfl, ?_⟩) (by assumption) ?_
  rotate_left 1
  · intro v hSv
    clear hSv
    go_simp
    try with_reducible rfl
  try simp only [Act.put, List.setIfInBounds_toArray, List.set_cons_zero, List.set_cons_succ]
  refine wpAnyH_take (i := 42) (oi := { dst := some 69, op := .pick (.tmp 63) (.tmp 68) (.const (.bool false)), type := _, pos := _, after := _, guard := _ }) (v := ?_) rfl (by kernel_rfl) (by kernel_rfl) (by kernel_rfl) (fun _ _ _ h => h) (Or.inl ⟨by rfl, ?_⟩) (by assumption) ?_
  rotate_left 1
  · intro v hSv
    clear hSv
    go_simp
    try with_reducible rfl
  try simp only [Act.put, List.setIfInBounds_toArray, List.set_cons_zero, List.set_cons_succ]
  refine wpAnyH_take (i := 43) (oi := { dst := some 70, op := .move (.tmp 69), type := _, pos := _, after := _, guard := _ }) (v := ?_) rfl (by kernel_rfl) (by kernel_rfl) (by kernel_rfl) (fun _ _ _ h => h) (Or.inl ⟨by rfl, ?_⟩) (by assumption) ?_
  rotate_left 1
  · intro v hSv
    clear hSv
    go_simp
    try with_reducible rfl
  try simp only [Act.put, List.setIfInBounds_toArray, List.set_cons_zero, List.set_cons_succ]
  refine wpAnyH_take (i := 44) (oi := { dst := some 71, op := .load _ (.tmp 3), type := _, pos := _, after := _, guard := _ }) (v := ?_) rfl (by kernel_rfl) (by kernel_rfl) (by kernel_rfl) (fun _ _ _ h => h) (Or.inl ⟨by rfl, ?_⟩) (by assumption) ?_
  rotate_left 1
  · intro v hSv
    have hv1 := LQL.out v hSv
    clear hSv
    go_simp
    try with_reducible rfl
  try simp only [Act.put, List.setIfInBounds_toArray, List.set_cons_zero, List.set_cons_succ]
  refine wpAnyH_ready (rs := [45]) (by kernel_rfl) (by simp) ?_
  refine AllReadyH.cons (o := { dst := some 72, op := .call _, type := _, pos := _, after := _, guard := _ }) rfl (fun K hK => ?_) AllReadyH.nil
  go_simp
  refine (HCK.out _ (HE5.out.below (hb2))).mono ?_
  rintro e y3 ⟨rfl, hb⟩
  have hb3 : Below X.heap.size X y3 := keeps (hb2) hb
  clear hb
  go_wp2_with fail
  refine hK.out _ _ (hb3) (fun hHeld => ?_)
  clear hK K
  try simp only [Act.put, List.setIfInBounds_toArray, List.set_cons_zero, List.set_cons_succ]
  refine wpAnyH_take (i := 46) (oi := { dst := some 73, op := .binOp .eql _ (.tmp 72) (.const (.int .i64 0)) _, type := _, pos := _, after := _, guard := _ }) (v := ?_) rfl (by kernel_rfl) (by kernel_rfl) (by kernel_rfl) (fun _ _ _ h => h) (Or.inl ⟨by rfl, ?_⟩) (by assumption) ?_
  rotate_left 1
  · intro v hSv
    clear hSv
    go_simp
    try with_reducible rfl
  try simp only [Act.put, List.setIfInBounds_toArray, List.set_cons_zero, List.set_cons_succ]
  refine wpAnyH_take (i := 47) (oi := { dst := some 74, op := .pick (.tmp 70) (.tmp 73) (.const (.bool false)), type := _, pos := _, after := _, guard := _ }) (v := ?_) rfl (by kernel_rfl) (by kernel_rfl) (by kernel_rfl) (fun _ _ _ h => h) (Or.inl ⟨by rfl, ?_⟩) (by assumption) ?_
  rotate_left 1
  · intro v hSv
    clear hSv
    go_simp
    try with_reducible rfl
  try simp only [Act.put, List.setIfInBounds_toArray, List.set_cons_zero, List.set_cons_succ]
  refine wpAnyH_take (i := 48) (oi := { dst := some 75, op := .move (.tmp 74), type := _, pos := _, after := _, guard := _ }) (v := ?_) rfl (by kernel_rfl) (by kernel_rfl) (by kernel_rfl) (fun _ _ _ h => h) (Or.inl ⟨by rfl, ?_⟩) (by assumption) ?_
  rotate_left 1
  · intro v hSv
    clear hSv
    go_simp
    try with_reducible rfl
  try simp only [Act.put, List.setIfInBounds_toArray, List.set_cons_zero, List.set_cons_succ]
  refine wpAnyH_take (i := 49) (oi := { dst := some 76, op := .move (.tmp 4), type := _, pos := _, after := _, guard := _ }) (v := ?_) rfl (by kernel_rfl) (by kernel_rfl) (by kernel_rfl) (fun _ _ _ h => h) (Or.inl ⟨by rfl, ?_⟩) (by assumption) ?_
  rotate_left 1
  · intro v hSv
    clear hSv
    go_simp
    try with_reducible rfl
  try simp only [Act.put, List.setIfInBounds_toArray, List.set_cons_zero, List.set_cons_succ]
  refine wpAnyH_take (i := 50) (oi := { dst := some 77, op := .call _, type := _, pos := _, after := _, guard := _ }) (v := ?_) rfl (by kernel_rfl) (by kernel_rfl) (by kernel_rfl) (fun _ _ _ h => h) (Or.inl ⟨by rfl, ?_⟩) (by assumption) ?_
  rotate_left 1
  · intro v hSv
    clear hSv
    go_simp
    try with_reducible rfl
  try simp only [Act.put, List.setIfInBounds_toArray, List.set_cons_zero, List.set_cons_succ]
  refine wpAnyH_take (i := 51) (oi := { dst := some 78, op := .binOp .eql _ (.tmp 77) (.const (.int .i64 1)) _, type := _, pos := _, after := _, guard := _ }) (v := ?_) rfl (by kernel_rfl) (by kernel_rfl) (by kernel_rfl) (fun _ _ _ h => h) (Or.inl ⟨by rfl, ?_⟩) (by assumption) ?_
  rotate_left 1
  · intro v hSv
    clear hSv
    go_simp
    try with_reducible rfl
  try simp only [Act.put, List.setIfInBounds_toArray, List.set_cons_zero, List.set_cons_succ]
  refine wpAnyH_take (i := 52) (oi := { dst := some 79, op := .pick (.tmp 75) (.tmp 78) (.const (.bool false)), type := _, pos := _, after := _, guard := _ }) (v := ?_) rfl (by kernel_rfl) (by kernel_rfl) (by kernel_rfl) (fun _ _ _ h => h) (Or.inl ⟨by rfl, ?_⟩) (by assumption) ?_
  rotate_left 1
  · intro v hSv
    clear hSv
    go_simp
    try with_reducible rfl
  try simp only [Act.put, List.setIfInBounds_toArray, List.set_cons_zero, List.set_cons_succ]
  refine wpAnyH_take (i := 53) (oi := { dst := some 80, op := .move (.tmp 79), type := _, pos := _, after := _, guard := _ }) (v := ?_) rfl (by kernel_rfl) (by kernel_rfl) (by kernel_rfl) (fun _ _ _ h => h) (Or.inl ⟨by rfl, ?_⟩) (by assumption) ?_
  rotate_left 1
  · intro v hSv
    clear hSv
    go_simp
    try with_reducible rfl
  try simp only [Act.put, List.setIfInBounds_toArray, List.set_cons_zero, List.set_cons_succ]
  refine wpAnyH_take (i := 54) (oi := { dst := some 81, op := .move (.tmp 5), type := _, pos := _, after := _, guard := _ }) (v := ?_) rfl (by kernel_rfl) (by kernel_rfl) (by kernel_rfl) (fun _ _ _ h => h) (Or.inl ⟨by rfl, ?_⟩) (by assumption) ?_
  rotate_left 1
  · intro v hSv
    clear hSv
    go_simp
    try with_reducible rfl
  try simp only [Act.put, List.setIfInBounds_toArray, List.set_cons_zero, List.set_cons_succ]
  refine wpAnyH_take (i := 55) (oi := { dst := some 82, op := .binOp .eql _ (.tmp 81) (.const (.int .i64 0)) _, type := _, pos := _, after := _, guard := _ }) (v := ?_) rfl (by kernel_rfl) (by kernel_rfl) (by kernel_rfl) (fun _ _ _ h => h) (Or.inl ⟨by rfl, ?_⟩) (by assumption) ?_
  rotate_left 1
  · intro v hSv
    clear hSv
    go_simp
    try with_reducible rfl
  try simp only [Act.put, List.setIfInBounds_toArray, List.set_cons_zero, List.set_cons_succ]
  refine wpAnyH_take (i := 56) (oi := { dst := some 83, op := .pick (.tmp 80) (.tmp 82) (.const (.bool false)), type := _, pos := _, after := _, guard := _ }) (v := ?_) rfl (by kernel_rfl) (by kernel_rfl) (by kernel_rfl) (fun _ _ _ h => h) (Or.inl ⟨by rfl, ?_⟩) (by assumption) ?_
  rotate_left 1
  · intro v hSv
    clear hSv
    go_simp
    try with_reducible rfl
  try simp only [Act.put, List.setIfInBounds_toArray, List.set_cons_zero, List.set_cons_succ]
  refine wpAnyH_take (i := 57) (oi := { dst := some 84, op := .move (.tmp 83), type := _, pos := _, after := _, guard := _ }) (v := ?_) rfl (by kernel_rfl) (by kernel_rfl) (by kernel_rfl) (fun _ _ _ h => h) (Or.inl ⟨by rfl, ?_⟩) (by assumption) ?_
  rotate_left 1
  · intro v hSv
    clear hSv
    go_simp
    try with_reducible rfl
  try simp only [Act.put, List.setIfInBounds_toArray, List.set_cons_zero, List.set_cons_succ]
  refine wpAnyH_take (i := 58) (oi := { dst := some 85, op := .load _ (.tmp 3), type := _, pos := _, after := _, guard := _ }) (v := ?_) rfl (by kernel_rfl) (by kernel_rfl) (by kernel_rfl) (fun _ _ _ h => h) (Or.inl ⟨by rfl, ?_⟩) (by assumption) ?_
  rotate_left 1
  · intro v hSv
    have hv1 := LQL.out v hSv
    clear hSv
    go_simp
    try with_reducible rfl
  try simp only [Act.put, List.setIfInBounds_toArray, List.set_cons_zero, List.set_cons_succ]
  refine wpAnyH_take (i := 60) (oi := { dst := some 87, op := .load _ (.tmp 3), type := _, pos := _, after := _, guard := _ }) (v := ?_) rfl (by kernel_rfl) (by kernel_rfl) (by kernel_rfl) (fun _ _ _ h => h) (Or.inl ⟨by rfl, ?_⟩) (by assumption) ?_
  rotate_left 1
  · intro v hSv
    have hv1 := LQL.out v hSv
    clear hSv
    go_simp
    try with_reducible rfl
  try simp only [Act.put, List.setIfInBounds_toArray, List.set_cons_zero, List.set_cons_succ]
  refine wpAnyH_ready (rs := [59]) (by kernel_rfl) (by simp) ?_
  refine AllReadyH.cons (o := { dst := some 86, op := .call _, type := _, pos := _, after := _, guard := _ }) rfl (fun K hK => ?_) AllReadyH.nil
  go_simp
  refine (HCL.out _ (HE5.out.below (hb3))).mono ?_
  rintro e y4 ⟨A4, c4, rfl, hN4, hb⟩
  have hb4 : Below X.heap.size X y4 := keeps (hb3) hb
  have HF4 := Lib.hid (hN4.ds HQO.out.sib)
  have HC4 := Lib.hid hN4.1
  clear hN4
  clear hb
  go_wp2_with fail
  refine hK.out _ _ (hb4) (fun hHeld => ?_)
  clear hK K
  try simp only [Act.put, List.setIfInBounds_toArray, List.set_cons_zero, List.set_cons_succ]
  refine wpAnyH_ready (rs := [61]) (by kernel_rfl) (by simp) ?_
  refine AllReadyH.cons (o := { dst := some 88, op := .call _, type := _, pos := _, after := _, guard := _ }) rfl (fun K hK => ?_) AllReadyH.nil
  go_simp
  refine (HQQ.out _ A4 c4 HF4.out (HE5.out.below (hb4)) HC4.out).mono ?_
  rintro e y5 ⟨rfl, hb⟩
  have hb5 : Below X.heap.size X y5 := keeps (hb4) hb
  clear hb
  go_wp2_with fail
  refine hK.out _ _ (hb5) (fun hHeld => ?_)
  clear hK K
  try simp only [Act.put, List.setIfInBounds_toArray, List.set_cons_zero, List.set_cons_succ]
  refine wpAnyH_take (i := 62) (oi := { dst := some 89, op := .pick (.tmp 84) (.tmp 88) (.const (.bool false)), type := _, pos := _, after := _, guard := _ }) (v := ?_) rfl (by kernel_rfl) (by kernel_rfl) (by kernel_rfl) (fun _ _ _ h => h) (Or.inl ⟨by rfl, ?_⟩) (by assumption) ?_
  rotate_left 1
  · intro v hSv
    clear hSv
    go_simp
    try with_reducible rfl
  try simp only [Act.put, List.setIfInBounds_toArray, List.set_cons_zero, List.set_cons_succ]
  refine wpAnyH_take (i := 63) (oi := { dst := some 90, op := .move (.tmp 89), type := _, pos := _, after := _, guard := _ }) (v := ?_) rfl (by kernel_rfl) (by kernel_rfl) (by kernel_rfl) (fun _ _ _ h => h) (Or.inl ⟨by rfl, ?_⟩) (by assumption) ?_
  rotate_left 1
  · intro v hSv
    clear hSv
    go_simp
    try with_reducible rfl
  try simp only [Act.put, List.setIfInBounds_toArray, List.set_cons_zero, List.set_cons_succ]
  refine wpAnyH_take (i := 64) (oi := { dst := some 91, op := .load _ (.tmp 2), type := _, pos := _, after := _, guard := _ }) (v := ?_) rfl (by kernel_rfl) (by kernel_rfl) (by kernel_rfl) (fun _ _ _ h => h) (Or.inl ⟨by rfl, ?_⟩) (by assumption) ?_
  rotate_left 1
  · intro v hSv
    have hv1 := LPL.out v hSv
    clear hSv
    go_simp
    try with_reducible rfl
  try simp only [Act.put, List.setIfInBounds_toArray, List.set_cons_zero, List.set_cons_succ]
  refine wpAnyH_take (i := 65) (oi := { dst := some 92, op := .load _ (.tmp 3), type := _, pos := _, after := _, guard := _ }) (v := ?_) rfl (by kernel_rfl) (by kernel_rfl) (by kernel_rfl) (fun _ _ _ h => h) (Or.inl ⟨by rfl, ?_⟩) (by assumption) ?_
  rotate_left 1
  · intro v hSv
    have hv1 := LQL.out v hSv
    clear hSv
    go_simp
    try with_reducible rfl
  try simp only [Act.put, List.setIfInBounds_toArray, List.set_cons_zero, List.set_cons_succ]
  refine wpAnyH_ready (rs := [66]) (by kernel_rfl) (by simp) ?_
  refine AllReadyH.cons (o := { dst := some 93, op := .call _, type := _, pos := _, after := _, guard := _ }) rfl (fun K hK => ?_) AllReadyH.nil
  go_simp
  refine (HPQ.out _ (HD5.out.below (hb5)) (HE5.out.below (hb5))).mono ?_
  rintro e y6 ⟨rfl, hb⟩
  have hb6 : Below X.heap.size X y6 := keeps (hb5) hb
  clear hb
  go_wp2_with fail
  refine hK.out _ _ (hb6) (fun hHeld => ?_)
  clear hK K
  try simp only [Act.put, List.setIfInBounds_toArray, List.set_cons_zero, List.set_cons_succ]
  refine wpAnyH_take (i := 67) (oi := { dst := some 94, op := .unOp .not _ (.tmp 93), type := _, pos := _, after := _, guard := _ }) (v := ?_) rfl (by kernel_rfl) (by kernel_rfl) (by kernel_rfl) (fun _ _ _ h => h) (Or.inl ⟨by rfl, ?_⟩) (by assumption) ?_
  rotate_left 1
  · intro v hSv
    clear hSv
    go_simp
    try with_reducible rfl
  try simp only [Act.put, List.setIfInBounds_toArray, List.set_cons_zero, List.set_cons_succ]
  refine wpAnyH_take (i := 68) (oi := { dst := some 95, op := .pick (.tmp 90) (.tmp 94) (.const (.bool false)), type := _, pos := _, after := _, guard := _ }) (v := ?_) rfl (by kernel_rfl) (by kernel_rfl) (by kernel_rfl) (fun _ _ _ h => h) (Or.inl ⟨by rfl, ?_⟩) (by assumption) ?_
  rotate_left 1
  · intro v hSv
    clear hSv
    go_simp
    try with_reducible rfl
  try simp only [Act.put, List.setIfInBounds_toArray, List.set_cons_zero, List.set_cons_succ]
  refine wpAnyH_take (i := 69) (oi := { dst := some 0, op := .assign (.tmp 95), type := _, pos := _, after := _, guard := _ }) (v := ?_) rfl (by kernel_rfl) (by kernel_rfl) (by kernel_rfl) (fun _ _ _ h => h) (Or.inl ⟨by rfl, ?_⟩) (by assumption) ?_
  rotate_left 1
  · intro v hSv
    clear hSv
    go_simp
    try with_reducible rfl
  try simp only [Act.put, List.setIfInBounds_toArray, List.set_cons_zero, List.set_cons_succ]
  refine wpAnyH_done (by kernel_rfl) ?_ _
  go_wp2_with fail
  go_ret
  exact ⟨rfl, HBX.out _ (hb6)⟩
end Go.Proofs.YtfeabjcnfgcmkaaDoor
