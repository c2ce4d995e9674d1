/- Several texts in one: Cd Ce Cf. -/
import Derived.BigQuiet
import Derived.Test.YtnmbbfndboohjaaGreatDoorCA
import Derived.Test.YtnmbbfndboohjaaGreatDoorMR
import Derived.Deep.RegionHeld
import Derived.Test.YtnmbbfndboohjaaGreatDoorM6
import Derived.Test.YtnmbbfndboohjaaGreatDoorMM
/- The reference's Preimages (by program: gen-tpl16-ref.py). -/
namespace Go.Proofs.YtnmbbfndboohjaaGreatDoor
open Go.RowKit

end Go.Proofs.YtnmbbfndboohjaaGreatDoor

/- The reference's Steps (layer 16). -/
namespace Go.Proofs.YtnmbbfndboohjaaGreatDoor
open Go.RowKit

end Go.Proofs.YtnmbbfndboohjaaGreatDoor

/- alive of layer 16 over contracts (its last region by program: gen-tpl16-alive.py). -/
namespace Go.Proofs.YtnmbbfndboohjaaGreatDoor
open Go.RowKit

def kk5 : List UInt8 := 5 :: List.replicate 31 0
theorem bldKey_5 (w : World) : bldA 24 w #[(0, .int .u8 5)] = .ok (.value (.agg (bA kk5))) w := by kernel_rfl
theorem bldPf_none (w : World) : bldA 39 w #[] = .ok (.value (.agg (pfC zPf (.slice none 0 0)))) w := by kernel_rfl
theorem z26_bits : ∀ n, n ≤ 256 → Bt.setZ (keyF z26) n = [] ∧ Bt.lastTo (keyF z26) n = -1
  | 0, _ => ⟨rfl, rfl⟩
  | n + 1, h => by
    obtain ⟨h1, h2⟩ := z26_bits n (by omega)
    have hb : ¬ Bt.bit (keyF z26) n = 1 := by
      have : keyF z26 (n / 8) = 0 := by
        unfold keyF z26
        rw [List.getD_eq_getElem?_getD, List.getElem?_replicate, if_pos (by omega)]; rfl
      unfold Bt.bit
      rw [this]; simp
    unfold Bt.setZ Bt.lastTo
    rw [if_neg hb, if_neg hb]
    exact ⟨h1, h2⟩
theorem chk_zero : chkP zPf = 0 := chkP_ok (.inl rfl) ⟨Int.le_refl 0, by decide, fun _ => rfl, by rw [show zPf.bm = z26 from rfl, (z26_bits 256 (Nat.le_refl _)).1]; rfl, by rw [show zPf.bm = z26 from rfl, (z26_bits 256 (Nat.le_refl _)).2]; rfl⟩
theorem end_zero : endP zPf = emptyL := rfl
set_option linter.unusedSimpArgs false in
set_option maxHeartbeats 16000000 in
set_option maxRecDepth 100000 in
theorem alive16_c (fo : FoV) (w : World) (hvx : Vars w) : Calls Tryz.prog 6 #[] w (Aye w) := by
  have HVX := Lib.hid hvx
  have HH := Lib.hid (hash_in 256 w (by decide) (by decide))
  have bp := bldPf_none
  have bk := bldKey_5
  obtain ⟨dg, hdg⟩ : ∃ dg, dg = digL 256 emptyL := ⟨_, rfl⟩
  have HDG := Lib.hid hdg
  have HDL : Hid (dg.length = 32) := by show _ = _; rw [hdg]; exact dig_len _ _
  have HRO : Hid (∀ w b m, Hs w b 256 m → m ≤ 500000 → Vars w → Calls Tryz.prog 7 #[ptr b, .agg (pfC zPf (.slice none 0 0)), .agg (bA kk5)] w fun e w' => ∃ m', e = .returned (.tuple #[.agg (bA dg), .int .i64 0]) ∧ m' ≤ m + 2 ∧ Hs w' b 256 m' ∧ Keep (fun i => i = b) w w') := fun w b m h1 h2 h3 => by
    have := fo.root w b 256 m zPf none 0 kk5 h1 h2 h3 zPf_ok (DS.nil _ _) (Nat.le_refl 0) (Nat.zero_le _) rfl chk_zero
    rw [show rootP 256 zPf kk5 = dg from hdg.symm] at this
    exact this
  have HPE : Hid (∀ w b m, Hs w b 256 m → m ≤ 500000 → Vars w → Calls Tryz.prog 15 #[ptr b, .agg (pfC zPf (.slice none 0 0)), .agg (bA kk5)] w fun e w' => ∃ A' c' m', e = .returned (.tuple #[.slice A' 1 c', .int .i64 0]) ∧ PS w' A' [emptyL] ∧ m' ≤ m + 1000 ∧ Hs w' b 256 m' ∧ Keep (fun i => i = b) w w') := fun w b m h1 h2 h3 =>
    fo.pre w b 256 m zPf none 0 kk5 h1 h2 h3 zPf_ok (DS.nil _ _) (Nat.le_refl 0) (Nat.zero_le _) rfl chk_zero
  have HSP : Hid (∀ w b m, Hs w b 256 m → m ≤ 500000 → Vars w → Calls Tryz.prog 16 #[ptr b, .agg (pfC zPf (.slice none 0 0)), .agg (bA kk5)] w fun e w' => ∃ A' c' m', e = .returned (.tuple #[.slice A' 1 c', .int .i64 0]) ∧ NewD w' w.heap.size A' c' [dg] ∧ m' ≤ m + 2 ∧ Hs w' b 256 m' ∧ Keep (fun i => i = b) w w') := fun w b m h1 h2 h3 => by
    have := fo.steps w b 256 m zPf none 0 kk5 h1 h2 h3 zPf_ok (DS.nil _ _) (Nat.le_refl 0) (Nat.zero_le _) rfl chk_zero
    rw [show stepL 256 zPf kk5 = [dg] by rw [hdg]; rfl] at this
    exact this
  clear hvx hdg
  go_enter Tryz.func6, Tryz.ntmps6
  go_wp2_with fail
  refine HH.out.mono ?_
  rintro _ w1 ⟨b, rfl, hb, hH, hB⟩
  have HB1 := Lib.hid hB
  have HN1 := Lib.hid hb
  have HV1 := Lib.hid (HVX.out.below hB)
  have HH1 := Lib.hid hH
  clear hb hH hB HH
  go_wp2_with fail
  refine (HRO.out w1 b 0 HH1.out (by omega) HV1.out).mono ?_
  rintro _ w2 ⟨m2, rfl, hm2, hH2, hK2⟩
  have HM2 := Lib.hid hm2
  have HKA := Lib.hid hK2
  have st2 := stA_new (t := 31) w2 (bA z26) (bA dg) (by rw [bA_size, HDL.out]; exact info26) (by rw [bA_size, bA_size, HDL.out]; rfl) (bA_one _)
  obtain ⟨w3, hw3⟩ : ∃ w3, w3 = w2.alloc (.cells (bA dg) 31) := ⟨_, rfl⟩
  have hb3 : Below w2.heap.size w2 w3 := by rw [hw3]; exact Bt.one_below _ _
  have HDR : Hid (w3.heap[w2.heap.size]? = some (.cells (bA dg) 31 (0, 0))) := by show _ = _; rw [hw3]; exact heap_alloc_new w2 _
  have HH3 : Hid (Hs w3 b 256 m2) := hH2.keep (Keep.of_below (L := fun _ => False) hb3) id
  have HV3 := Lib.hid ((HV1.out.hs HH1.out hK2).below hb3)
  have HNB : Hid (¬ w2.heap.size = b) := fun e => by have := lt_of_heap hH2; omega
  have HB3 := Lib.hid (keeps (keep_new HB1.out HN1.out hK2) hb3)
  rw [← hw3] at st2
  have HW3 := Lib.hid hw3
  clear hm2 hH2 hK2 hb3 hw3
  go_wp2_with fail
  clear st2
  refine (HPE.out w3 b m2 HH3.out (by have := HM2.out; omega) HV3.out).mono ?_
  rintro _ w4 ⟨A4, c4, m4, rfl, hP4, hm4, hH4, hK4⟩
  have HP4 := Lib.hid hP4
  have HM4 := Lib.hid hm4
  have HH4 := Lib.hid hH4
  have HV4 := Lib.hid (HV3.out.hs HH3.out hK4)
  have HD4 : Hid (w4.heap[w2.heap.size]? = some (.cells (bA dg) 31 (0, 0))) := hK4.heap HDR.out HNB.out
  have HB4 := Lib.hid (keep_new HB3.out HN1.out hK4)
  clear hP4 hm4 hH4 hK4
  go_wp2_with fail
  refine (HSP.out w4 b m4 HH4.out (by have := HM4.out; have := HM2.out; omega) HV4.out).mono ?_
  rintro _ X ⟨A5, c5, m5, rfl, hN5, hm5, hH5, hK5⟩
  have HH5 := Lib.hid hH5
  have HV5 := Lib.hid (HV4.out.hs HH4.out hK5)
  have hD5 : X.heap[w2.heap.size]? = some (.cells (bA dg) 31 (0, 0)) := hK5.heap HD4.out HNB.out
  have HBX : Hid (∀ w', Keep (fun i => i = b) X w' → Below w.heap.size w w') := fun w' h => keep_new (keep_new HB4.out HN1.out hK5) HN1.out h
  obtain ⟨gl, ol, vl, hA4, hcl, A1, c1, rfl, hba, hlc⟩ := (HP4.out.hs HH4.out hK5) 0 emptyL rfl
  rw [Nat.add_zero] at hcl
  obtain ⟨_, gs, os, hA5, hrs⟩ := (hN5.ds fun s hs => by rw [List.mem_singleton.1 hs]; exact HDL.out) 0 dg rfl
  rw [Nat.zero_mul, Nat.add_zero] at hrs
  subst hA4
  subst hA5
  have HRS := Lib.hid hrs
  have hgl : ¬ gl = b := fun e => by
    subst e
    rw [cell_of_cells hH5] at hcl
    match ol, hcl with
    | 0, hcl => cases hcl
    | 1, hcl => cases hcl
    | q + 2, hcl => simp at hcl
  have LD2 : Hid (∀ v, Keep (fun i => i = b) X v → ldA 31 v (.pointer (some ⟨w2.heap.size, 0, none⟩)) = .ok (.value (.agg (bA dg))) v) := fun v h => RowB.ldDig (show v.heap[w2.heap.size]? = _ from h.heap hD5 HNB.out) HDL.out
  have LL : Hid (∀ v, Keep (fun i => i = b) X v → v.cell? ⟨gl, ol, none⟩ = some (.slice A1 1 c1)) := fun v h => h.cellAt hcl hgl
  have LS : Hid (∀ v, Keep (fun i => i = b) X v → ldA 31 v (.pointer (some ⟨gs, os, none⟩)) = .ok (.value (.agg (bA dg))) v) := fun v h => by
    have hd : DS X (some ⟨gs, os, none⟩) [dg] := fun i x hi => by
      cases i with
      | zero => cases hi; exact ⟨HDL.out, gs, os, rfl, by rw [Nat.zero_mul, Nat.add_zero]; exact HRS.out⟩
      | succ i => simp at hi
    obtain ⟨_, g', o', e, hr⟩ := (hd.hs HH5.out h) 0 dg rfl
    cases e
    rw [Nat.zero_mul, Nat.add_zero] at hr
    exact ldDig hr HDL.out
  have HEM : Hid (∀ v, Calls Tryz.prog 17 #[.int .i64 256] v fun e w' => e = .returned (.agg (bA dg)) ∧ Below v.heap.size v w') := fun v => by rw [HDG.out]; exact rempty_c 256 v
  have HSA : Hid (∀ v : World, Keep (fun i => i = b) X (v.alloc (.cells #[.int .u8 3] 5)) → Calls Tryz.prog 18 #[.slice A1 1 c1, .slice (some ⟨v.heap.size, 0, none⟩) 1 1] (v.alloc (.cells #[.int .u8 3] 5)) fun e w' => e = .returned (.bool true) ∧ Below (v.alloc (.cells #[.int .u8 3] 5)).heap.size (v.alloc (.cells #[.int .u8 3] 5)) w') := fun v h => by
    obtain ⟨A9, c9, he, hc9, hA9⟩ := (own_made v 3).any
    cases he
    have := same_c A1 (some ⟨v.heap.size, 0, none⟩) c1 1 emptyL [3] (v.alloc (.cells #[.int .u8 3] 5)) (hba.hs16 HH5.out h) hA9 (by decide) (by decide)
    exact this
  have HM5 : Hid (m5 ≤ 500000) := by have := HM4.out; have := HM2.out; show m5 ≤ 500000; omega
  have HEN : Hid (∀ v, Keep (fun i => i = b) X v → Hs v b 256 m5 → Calls Tryz.prog 19 #[ptr b, .agg (pfC zPf (.slice none 0 0))] v fun e w' => ∃ m' : Nat, e = .returned (.agg (bA dg)) ∧ Keep (fun i => i = b) v w') := fun v hk hh => by
    have := fo.endd v b 256 m5 zPf none 0 hh HM5.out (HV5.out.hs HH5.out hk) zPf_ok (DS.nil _ _) (Nat.le_refl 0) (.inl rfl)
    rw [show digL 256 (endP zPf) = dg from HDG.out.symm] at this
    exact this.mono fun e w' ⟨m', h1, _, _, h4⟩ => ⟨m', h1, h4⟩
  have HF0 : Hid (Hs X.drew b 256 m5) := HH5.out
  have el := fun x y w => eqDig dg dg HDL.out HDL.out x y w
  rw [decide_eq_true (rfl : dg = dg)] at el
  have b11 : ((1 : Int) == 1) = true := rfl
  clear hN5 hm5 hH5 hK5 hD5 hcl hba hlc hrs hgl
  go_wp2_with fail
  refine wp_region_held_drew (S := fun w' => Keep (fun i => i = b) X w') (by kernel_rfl) ((Keep.refl _ _).drew) (fun hHeld => ?_)
  have hb0 : Keep (fun i => i = b) X X.drew := (Keep.refl _ _).drew
  refine wpAnyH_take (i := 0) (oi := { dst := some 32, op := .load _ (.tmp 2), type := _, pos := _, after := _, guard := _ }) (v := ?_) rfl (by kernel_rfl) (by kernel_rfl) (by kernel_rfl) (fun _ _ _ h => h) (Or.inl ⟨by rfl, ?_⟩) (by assumption) ?_
  rotate_left 1
  · intro v hSv
    have hv1 := LD2.out v hSv
    clear hSv
    go_simp
    try with_reducible rfl
  try simp only [Act.put, List.setIfInBounds_toArray, List.set_cons_zero, List.set_cons_succ]
  refine wpAnyH_ready (rs := [1]) (by kernel_rfl) (by simp) ?_
  refine AllReadyH.cons (o := { dst := some 33, op := .call _, type := _, pos := _, after := _, guard := _ }) rfl (fun K hK => ?_) AllReadyH.nil
  go_simp
  refine (HEM.out _).mono ?_
  rintro e y1 ⟨rfl, hb⟩
  have hb1 : Keep (fun i => i = b) X y1 := (hb0).trans (Keep.of_below hb)
  have HF1 := Lib.hid (HF0.out.keep (Keep.of_below (L := fun _ => False) hb) id)
  clear hb
  go_wp2_with fail
  refine hK.out _ _ (hb1) (fun hHeld => ?_)
  clear hK K
  try simp only [Act.put, List.setIfInBounds_toArray, List.set_cons_zero, List.set_cons_succ]
  refine wpAnyH_take (i := 2) (oi := { dst := some 34, op := .binOp .eql _ (.tmp 32) (.tmp 33) _, type := _, pos := _, after := _, guard := _ }) (v := ?_) rfl (by kernel_rfl) (by kernel_rfl) (by kernel_rfl) (fun _ _ _ h => h) (Or.inl ⟨by rfl, ?_⟩) (by assumption) ?_
  rotate_left 1
  · intro v hSv
    clear hSv
    go_simp
    try with_reducible rfl
  try simp only [Act.put, List.setIfInBounds_toArray, List.set_cons_zero, List.set_cons_succ]
  refine wpAnyH_take (i := 3) (oi := { dst := some 35, op := .move (.tmp 34), type := _, pos := _, after := _, guard := _ }) (v := ?_) rfl (by kernel_rfl) (by kernel_rfl) (by kernel_rfl) (fun _ _ _ h => h) (Or.inl ⟨by rfl, ?_⟩) (by assumption) ?_
  rotate_left 1
  · intro v hSv
    clear hSv
    go_simp
    try with_reducible rfl
  try simp only [Act.put, List.setIfInBounds_toArray, List.set_cons_zero, List.set_cons_succ]
  refine wpAnyH_take (i := 4) (oi := { dst := some 36, op := .move (.tmp 3), type := _, pos := _, after := _, guard := _ }) (v := ?_) rfl (by kernel_rfl) (by kernel_rfl) (by kernel_rfl) (fun _ _ _ h => h) (Or.inl ⟨by rfl, ?_⟩) (by assumption) ?_
  rotate_left 1
  · intro v hSv
    clear hSv
    go_simp
    try with_reducible rfl
  try simp only [Act.put, List.setIfInBounds_toArray, List.set_cons_zero, List.set_cons_succ]
  refine wpAnyH_take (i := 5) (oi := { dst := some 37, op := .binOp .eql _ (.tmp 36) (.const (.int .i64 0)) _, type := _, pos := _, after := _, guard := _ }) (v := ?_) rfl (by kernel_rfl) (by kernel_rfl) (by kernel_rfl) (fun _ _ _ h => h) (Or.inl ⟨by rfl, ?_⟩) (by assumption) ?_
  rotate_left 1
  · intro v hSv
    clear hSv
    go_simp
    try with_reducible rfl
  try simp only [Act.put, List.setIfInBounds_toArray, List.set_cons_zero, List.set_cons_succ]
  refine wpAnyH_take (i := 6) (oi := { dst := some 38, op := .pick (.tmp 35) (.tmp 37) (.const (.bool false)), type := _, pos := _, after := _, guard := _ }) (v := ?_) rfl (by kernel_rfl) (by kernel_rfl) (by kernel_rfl) (fun _ _ _ h => h) (Or.inl ⟨by rfl, ?_⟩) (by assumption) ?_
  rotate_left 1
  · intro v hSv
    clear hSv
    go_simp
    try with_reducible rfl
  try simp only [Act.put, List.setIfInBounds_toArray, List.set_cons_zero, List.set_cons_succ]
  refine wpAnyH_take (i := 7) (oi := { dst := some 39, op := .move (.tmp 38), type := _, pos := _, after := _, guard := _ }) (v := ?_) rfl (by kernel_rfl) (by kernel_rfl) (by kernel_rfl) (fun _ _ _ h => h) (Or.inl ⟨by rfl, ?_⟩) (by assumption) ?_
  rotate_left 1
  · intro v hSv
    clear hSv
    go_simp
    try with_reducible rfl
  try simp only [Act.put, List.setIfInBounds_toArray, List.set_cons_zero, List.set_cons_succ]
  refine wpAnyH_take (i := 8) (oi := { dst := some 40, op := .move (.tmp 4), type := _, pos := _, after := _, guard := _ }) (v := ?_) rfl (by kernel_rfl) (by kernel_rfl) (by kernel_rfl) (fun _ _ _ h => h) (Or.inl ⟨by rfl, ?_⟩) (by assumption) ?_
  rotate_left 1
  · intro v hSv
    clear hSv
    go_simp
    try with_reducible rfl
  try simp only [Act.put, List.setIfInBounds_toArray, List.set_cons_zero, List.set_cons_succ]
  refine wpAnyH_take (i := 9) (oi := { dst := some 41, op := .call _, type := _, pos := _, after := _, guard := _ }) (v := ?_) rfl (by kernel_rfl) (by kernel_rfl) (by kernel_rfl) (fun _ _ _ h => h) (Or.inl ⟨by rfl, ?_⟩) (by assumption) ?_
  rotate_left 1
  · intro v hSv
    clear hSv
    go_simp
    try with_reducible rfl
  try simp only [Act.put, List.setIfInBounds_toArray, List.set_cons_zero, List.set_cons_succ]
  refine wpAnyH_take (i := 10) (oi := { dst := some 42, op := .binOp .eql _ (.tmp 41) (.const (.int .i64 1)) _, type := _, pos := _, after := _, guard := _ }) (v := ?_) rfl (by kernel_rfl) (by kernel_rfl) (by kernel_rfl) (fun _ _ _ h => h) (Or.inl ⟨by rfl, ?_⟩) (by assumption) ?_
  rotate_left 1
  · intro v hSv
    clear hSv
    go_simp
    try with_reducible rfl
  try simp only [Act.put, List.setIfInBounds_toArray, List.set_cons_zero, List.set_cons_succ]
  refine wpAnyH_take (i := 11) (oi := { dst := some 43, op := .pick (.tmp 39) (.tmp 42) (.const (.bool false)), type := _, pos := _, after := _, guard := _ }) (v := ?_) rfl (by kernel_rfl) (by kernel_rfl) (by kernel_rfl) (fun _ _ _ h => h) (Or.inl ⟨by rfl, ?_⟩) (by assumption) ?_
  rotate_left 1
  · intro v hSv
    clear hSv
    go_simp
    try with_reducible rfl
  try simp only [Act.put, List.setIfInBounds_toArray, List.set_cons_zero, List.set_cons_succ]
  refine wpAnyH_take (i := 12) (oi := { dst := some 44, op := .move (.tmp 43), type := _, pos := _, after := _, guard := _ }) (v := ?_) rfl (by kernel_rfl) (by kernel_rfl) (by kernel_rfl) (fun _ _ _ h => h) (Or.inl ⟨by rfl, ?_⟩) (by assumption) ?_
  rotate_left 1
  · intro v hSv
    clear hSv
    go_simp
    try with_reducible rfl
  try simp only [Act.put, List.setIfInBounds_toArray, List.set_cons_zero, List.set_cons_succ]
  refine wpAnyH_take (i := 13) (oi := { dst := some 45, op := .move (.tmp 4), type := _, pos := _, after := _, guard := _ }) (v := ?_) rfl (by kernel_rfl) (by kernel_rfl) (by kernel_rfl) (fun _ _ _ h => h) (Or.inl ⟨by rfl, ?_⟩) (by assumption) ?_
  rotate_left 1
  · intro v hSv
    clear hSv
    go_simp
    try with_reducible rfl
  try simp only [Act.put, List.setIfInBounds_toArray, List.set_cons_zero, List.set_cons_succ]
  refine wpAnyH_take (i := 14) (oi := { dst := some 46, op := .indexAddr _ (.tmp 45) (.const (.int .i64 0)), type := _, pos := _, after := _, guard := _ }) (v := ?_) rfl (by kernel_rfl) (by kernel_rfl) (by kernel_rfl) (fun _ _ _ h => h) (Or.inl ⟨by rfl, ?_⟩) (by assumption) ?_
  rotate_left 1
  · intro v hSv
    clear hSv
    go_simp
    try with_reducible rfl
  try simp only [Act.put, List.setIfInBounds_toArray, List.set_cons_zero, List.set_cons_succ]
  refine wpAnyH_take (i := 15) (oi := { dst := some 47, op := .load _ (.tmp 46), type := _, pos := _, after := _, guard := _ }) (v := ?_) rfl (by kernel_rfl) (by kernel_rfl) (by kernel_rfl) (fun _ _ _ h => h) (Or.inl ⟨by rfl, ?_⟩) (by assumption) ?_
  rotate_left 1
  · intro v hSv
    have hv1 := LL.out v hSv
    clear hSv
    go_simp
    try with_reducible rfl
  try simp only [Act.put, List.setIfInBounds_toArray, List.set_cons_zero, List.set_cons_succ]
  refine wpAnyH_ready (rs := [16]) (by kernel_rfl) (by simp) ?_
  refine AllReadyH.cons (o := { dst := some 48, op := .buildSlice _ _ _, type := _, pos := _, after := _, guard := _ }) rfl (fun K hK => ?_) AllReadyH.nil
  go_simp
  refine hK.out _ _ ((hb1).alloc _) (fun hHeld => ?_)
  clear hK K
  try simp only [Act.put, List.setIfInBounds_toArray, List.set_cons_zero, List.set_cons_succ]
  refine wpAnyH_ready (rs := [17]) (by kernel_rfl) (by simp) ?_
  refine AllReadyH.cons (o := { dst := some 49, op := .call _, type := _, pos := _, after := _, guard := _ }) rfl (fun K hK => ?_) AllReadyH.nil
  go_simp
  refine (HSA.out _ (by assumption)).mono ?_
  rintro e y2 ⟨rfl, hb⟩
  have hb2 : Keep (fun i => i = b) X y2 := ((hb1).alloc _).trans (Keep.of_below hb)
  have HF2 := Lib.hid ((HF1.out.keep ((Keep.refl (fun _ => False) _).alloc _) id).keep (Keep.of_below (L := fun _ => False) hb) id)
  clear hb
  go_wp2_with fail
  refine hK.out _ _ (hb2) (fun hHeld => ?_)
  clear hK K
  try simp only [Act.put, List.setIfInBounds_toArray, List.set_cons_zero, List.set_cons_succ]
  refine wpAnyH_take (i := 18) (oi := { dst := some 50, op := .pick (.tmp 44) (.tmp 49) (.const (.bool false)), type := _, pos := _, after := _, guard := _ }) (v := ?_) rfl (by kernel_rfl) (by kernel_rfl) (by kernel_rfl) (fun _ _ _ h => h) (Or.inl ⟨by rfl, ?_⟩) (by assumption) ?_
  rotate_left 1
  · intro v hSv
    clear hSv
    go_simp
    try with_reducible rfl
  try simp only [Act.put, List.setIfInBounds_toArray, List.set_cons_zero, List.set_cons_succ]
  refine wpAnyH_take (i := 19) (oi := { dst := some 51, op := .move (.tmp 50), type := _, pos := _, after := _, guard := _ }) (v := ?_) rfl (by kernel_rfl) (by kernel_rfl) (by kernel_rfl) (fun _ _ _ h => h) (Or.inl ⟨by rfl, ?_⟩) (by assumption) ?_
  rotate_left 1
  · intro v hSv
    clear hSv
    go_simp
    try with_reducible rfl
  try simp only [Act.put, List.setIfInBounds_toArray, List.set_cons_zero, List.set_cons_succ]
  refine wpAnyH_take (i := 20) (oi := { dst := some 52, op := .move (.tmp 5), type := _, pos := _, after := _, guard := _ }) (v := ?_) rfl (by kernel_rfl) (by kernel_rfl) (by kernel_rfl) (fun _ _ _ h => h) (Or.inl ⟨by rfl, ?_⟩) (by assumption) ?_
  rotate_left 1
  · intro v hSv
    clear hSv
    go_simp
    try with_reducible rfl
  try simp only [Act.put, List.setIfInBounds_toArray, List.set_cons_zero, List.set_cons_succ]
  refine wpAnyH_take (i := 21) (oi := { dst := some 53, op := .binOp .eql _ (.tmp 52) (.const (.int .i64 0)) _, type := _, pos := _, after := _, guard := _ }) (v := ?_) rfl (by kernel_rfl) (by kernel_rfl) (by kernel_rfl) (fun _ _ _ h => h) (Or.inl ⟨by rfl, ?_⟩) (by assumption) ?_
  rotate_left 1
  · intro v hSv
    clear hSv
    go_simp
    try with_reducible rfl
  try simp only [Act.put, List.setIfInBounds_toArray, List.set_cons_zero, List.set_cons_succ]
  refine wpAnyH_take (i := 22) (oi := { dst := some 54, op := .pick (.tmp 51) (.tmp 53) (.const (.bool false)), type := _, pos := _, after := _, guard := _ }) (v := ?_) rfl (by kernel_rfl) (by kernel_rfl) (by kernel_rfl) (fun _ _ _ h => h) (Or.inl ⟨by rfl, ?_⟩) (by assumption) ?_
  rotate_left 1
  · intro v hSv
    clear hSv
    go_simp
    try with_reducible rfl
  try simp only [Act.put, List.setIfInBounds_toArray, List.set_cons_zero, List.set_cons_succ]
  refine wpAnyH_take (i := 23) (oi := { dst := some 55, op := .move (.tmp 54), type := _, pos := _, after := _, guard := _ }) (v := ?_) rfl (by kernel_rfl) (by kernel_rfl) (by kernel_rfl) (fun _ _ _ h => h) (Or.inl ⟨by rfl, ?_⟩) (by assumption) ?_
  rotate_left 1
  · intro v hSv
    clear hSv
    go_simp
    try with_reducible rfl
  try simp only [Act.put, List.setIfInBounds_toArray, List.set_cons_zero, List.set_cons_succ]
  refine wpAnyH_take (i := 24) (oi := { dst := some 56, op := .move (.tmp 6), type := _, pos := _, after := _, guard := _ }) (v := ?_) rfl (by kernel_rfl) (by kernel_rfl) (by kernel_rfl) (fun _ _ _ h => h) (Or.inl ⟨by rfl, ?_⟩) (by assumption) ?_
  rotate_left 1
  · intro v hSv
    clear hSv
    go_simp
    try with_reducible rfl
  try simp only [Act.put, List.setIfInBounds_toArray, List.set_cons_zero, List.set_cons_succ]
  refine wpAnyH_take (i := 25) (oi := { dst := some 57, op := .call _, type := _, pos := _, after := _, guard := _ }) (v := ?_) rfl (by kernel_rfl) (by kernel_rfl) (by kernel_rfl) (fun _ _ _ h => h) (Or.inl ⟨by rfl, ?_⟩) (by assumption) ?_
  rotate_left 1
  · intro v hSv
    clear hSv
    go_simp
    try with_reducible rfl
  try simp only [Act.put, List.setIfInBounds_toArray, List.set_cons_zero, List.set_cons_succ]
  refine wpAnyH_take (i := 26) (oi := { dst := some 58, op := .binOp .eql _ (.tmp 57) (.const (.int .i64 1)) _, type := _, pos := _, after := _, guard := _ }) (v := ?_) rfl (by kernel_rfl) (by kernel_rfl) (by kernel_rfl) (fun _ _ _ h => h) (Or.inl ⟨by rfl, ?_⟩) (by assumption) ?_
  rotate_left 1
  · intro v hSv
    clear hSv
    go_simp
    try with_reducible rfl
  try simp only [Act.put, List.setIfInBounds_toArray, List.set_cons_zero, List.set_cons_succ]
  refine wpAnyH_take (i := 27) (oi := { dst := some 59, op := .pick (.tmp 55) (.tmp 58) (.const (.bool false)), type := _, pos := _, after := _, guard := _ }) (v := ?_) rfl (by kernel_rfl) (by kernel_rfl) (by kernel_rfl) (fun _ _ _ h => h) (Or.inl ⟨by rfl, ?_⟩) (by assumption) ?_
  rotate_left 1
  · intro v hSv
    clear hSv
    go_simp
    try with_reducible rfl
  try simp only [Act.put, List.setIfInBounds_toArray, List.set_cons_zero, List.set_cons_succ]
  refine wpAnyH_take (i := 28) (oi := { dst := some 60, op := .move (.tmp 59), type := _, pos := _, after := _, guard := _ }) (v := ?_) rfl (by kernel_rfl) (by kernel_rfl) (by kernel_rfl) (fun _ _ _ h => h) (Or.inl ⟨by rfl, ?_⟩) (by assumption) ?_
  rotate_left 1
  · intro v hSv
    clear hSv
    go_simp
    try with_reducible rfl
  try simp only [Act.put, List.setIfInBounds_toArray, List.set_cons_zero, List.set_cons_succ]
  refine wpAnyH_take (i := 29) (oi := { dst := some 61, op := .move (.tmp 6), type := _, pos := _, after := _, guard := _ }) (v := ?_) rfl (by kernel_rfl) (by kernel_rfl) (by kernel_rfl) (fun _ _ _ h => h) (Or.inl ⟨by rfl, ?_⟩) (by assumption) ?_
  rotate_left 1
  · intro v hSv
    clear hSv
    go_simp
    try with_reducible rfl
  try simp only [Act.put, List.setIfInBounds_toArray, List.set_cons_zero, List.set_cons_succ]
  refine wpAnyH_take (i := 30) (oi := { dst := some 62, op := .indexAddr _ (.tmp 61) (.const (.int .i64 0)), type := _, pos := _, after := _, guard := _ }) (v := ?_) rfl (by kernel_rfl) (by kernel_rfl) (by kernel_rfl) (fun _ _ _ h => h) (Or.inl ⟨by rfl, ?_⟩) (by assumption) ?_
  rotate_left 1
  · intro v hSv
    clear hSv
    go_simp
    try with_reducible rfl
  try simp only [Act.put, List.setIfInBounds_toArray, List.set_cons_zero, List.set_cons_succ]
  refine wpAnyH_take (i := 31) (oi := { dst := some 63, op := .load _ (.tmp 62), type := _, pos := _, after := _, guard := _ }) (v := ?_) rfl (by kernel_rfl) (by kernel_rfl) (by kernel_rfl) (fun _ _ _ h => h) (Or.inl ⟨by rfl, ?_⟩) (by assumption) ?_
  rotate_left 1
  · intro v hSv
    have hv1 := LS.out v hSv
    clear hSv
    go_simp
    try with_reducible rfl
  try simp only [Act.put, List.setIfInBounds_toArray, List.set_cons_zero, List.set_cons_succ]
  refine wpAnyH_take (i := 32) (oi := { dst := some 64, op := .load _ (.tmp 2), type := _, pos := _, after := _, guard := _ }) (v := ?_) rfl (by kernel_rfl) (by kernel_rfl) (by kernel_rfl) (fun _ _ _ h => h) (Or.inl ⟨by rfl, ?_⟩) (by assumption) ?_
  rotate_left 1
  · intro v hSv
    have hv1 := LD2.out v hSv
    clear hSv
    go_simp
    try with_reducible rfl
  try simp only [Act.put, List.setIfInBounds_toArray, List.set_cons_zero, List.set_cons_succ]
  refine wpAnyH_take (i := 33) (oi := { dst := some 65, op := .binOp .eql _ (.tmp 63) (.tmp 64) _, type := _, pos := _, after := _, guard := _ }) (v := ?_) rfl (by kernel_rfl) (by kernel_rfl) (by kernel_rfl) (fun _ _ _ h => h) (Or.inl ⟨by rfl, ?_⟩) (by assumption) ?_
  rotate_left 1
  · intro v hSv
    clear hSv
    go_simp
    try with_reducible rfl
  try simp only [Act.put, List.setIfInBounds_toArray, List.set_cons_zero, List.set_cons_succ]
  refine wpAnyH_take (i := 34) (oi := { dst := some 66, op := .pick (.tmp 60) (.tmp 65) (.const (.bool false)), type := _, pos := _, after := _, guard := _ }) (v := ?_) rfl (by kernel_rfl) (by kernel_rfl) (by kernel_rfl) (fun _ _ _ h => h) (Or.inl ⟨by rfl, ?_⟩) (by assumption) ?_
  rotate_left 1
  · intro v hSv
    clear hSv
    go_simp
    try with_reducible rfl
  try simp only [Act.put, List.setIfInBounds_toArray, List.set_cons_zero, List.set_cons_succ]
  refine wpAnyH_take (i := 35) (oi := { dst := some 67, op := .move (.tmp 66), type := _, pos := _, after := _, guard := _ }) (v := ?_) rfl (by kernel_rfl) (by kernel_rfl) (by kernel_rfl) (fun _ _ _ h => h) (Or.inl ⟨by rfl, ?_⟩) (by assumption) ?_
  rotate_left 1
  · intro v hSv
    clear hSv
    go_simp
    try with_reducible rfl
  try simp only [Act.put, List.setIfInBounds_toArray, List.set_cons_zero, List.set_cons_succ]
  refine wpAnyH_take (i := 36) (oi := { dst := some 68, op := .move (.tmp 7), type := _, pos := _, after := _, guard := _ }) (v := ?_) rfl (by kernel_rfl) (by kernel_rfl) (by kernel_rfl) (fun _ _ _ h => h) (Or.inl ⟨by rfl, ?_⟩) (by assumption) ?_
  rotate_left 1
  · intro v hSv
    clear hSv
    go_simp
    try with_reducible rfl
  try simp only [Act.put, List.setIfInBounds_toArray, List.set_cons_zero, List.set_cons_succ]
  refine wpAnyH_take (i := 37) (oi := { dst := some 69, op := .binOp .eql _ (.tmp 68) (.const (.int .i64 0)) _, type := _, pos := _, after := _, guard := _ }) (v := ?_) rfl (by kernel_rfl) (by kernel_rfl) (by kernel_rfl) (fun _ _ _ h => h) (Or.inl ⟨by rfl, ?_⟩) (by assumption) ?_
  rotate_left 1
  · intro v hSv
    clear hSv
    go_simp
    try with_reducible rfl
  try simp only [Act.put, List.setIfInBounds_toArray, List.set_cons_zero, List.set_cons_succ]
  refine wpAnyH_take (i := 38) (oi := { dst := some 70, op := .pick (.tmp 67) (.tmp 69) (.const (.bool false)), type := _, pos := _, after := _, guard := _ }) (v := ?_) rfl (by kernel_rfl) (by kernel_rfl) (by kernel_rfl) (fun _ _ _ h => h) (Or.inl ⟨by rfl, ?_⟩) (by assumption) ?_
  rotate_left 1
  · intro v hSv
    clear hSv
    go_simp
    try with_reducible rfl
  try simp only [Act.put, List.setIfInBounds_toArray, List.set_cons_zero, List.set_cons_succ]
  refine wpAnyH_take (i := 39) (oi := { dst := some 71, op := .move (.tmp 70), type := _, pos := _, after := _, guard := _ }) (v := ?_) rfl (by kernel_rfl) (by kernel_rfl) (by kernel_rfl) (fun _ _ _ h => h) (Or.inl ⟨by rfl, ?_⟩) (by assumption) ?_
  rotate_left 1
  · intro v hSv
    clear hSv
    go_simp
    try with_reducible rfl
  try simp only [Act.put, List.setIfInBounds_toArray, List.set_cons_zero, List.set_cons_succ]
  refine wpAnyH_take (i := 40) (oi := { dst := some 72, op := .move (.tmp 1), type := _, pos := _, after := _, guard := _ }) (v := ?_) rfl (by kernel_rfl) (by kernel_rfl) (by kernel_rfl) (fun _ _ _ h => h) (Or.inl ⟨by rfl, ?_⟩) (by assumption) ?_
  rotate_left 1
  · intro v hSv
    clear hSv
    go_simp
    try with_reducible rfl
  try simp only [Act.put, List.setIfInBounds_toArray, List.set_cons_zero, List.set_cons_succ]
  refine wpAnyH_take (i := 41) (oi := { dst := some 73, op := .build _ #[], type := _, pos := _, after := _, guard := _ }) (v := ?_) rfl (by kernel_rfl) (by kernel_rfl) (by kernel_rfl) (fun _ _ _ h => h) (Or.inl ⟨by rfl, ?_⟩) (by assumption) ?_
  rotate_left 1
  · intro v hSv
    clear hSv
    go_simp
    try with_reducible rfl
  try simp only [Act.put, List.setIfInBounds_toArray, List.set_cons_zero, List.set_cons_succ]
  refine wpAnyH_take (i := 43) (oi := { dst := some 75, op := .load _ (.tmp 2), type := _, pos := _, after := _, guard := _ }) (v := ?_) rfl (by kernel_rfl) (by kernel_rfl) (by kernel_rfl) (fun _ _ _ h => h) (Or.inl ⟨by rfl, ?_⟩) (by assumption) ?_
  rotate_left 1
  · intro v hSv
    have hv1 := LD2.out v hSv
    clear hSv
    go_simp
    try with_reducible rfl
  try simp only [Act.put, List.setIfInBounds_toArray, List.set_cons_zero, List.set_cons_succ]
  refine wpAnyH_ready (rs := [42]) (by kernel_rfl) (by simp) ?_
  refine AllReadyH.cons (o := { dst := some 74, op := .call _, type := _, pos := _, after := _, guard := _ }) rfl (fun K hK => ?_) AllReadyH.nil
  go_simp
  refine (HEN.out _ (by assumption) HF2.out).mono ?_
  rintro e y3 ⟨m9, rfl, hb⟩
  have hb3 : Keep (fun i => i = b) X y3 := (hb2).trans hb
  clear hb
  go_wp2_with fail
  refine hK.out _ _ (hb3) (fun hHeld => ?_)
  clear hK K
  try simp only [Act.put, List.setIfInBounds_toArray, List.set_cons_zero, List.set_cons_succ]
  refine wpAnyH_take (i := 44) (oi := { dst := some 76, op := .binOp .eql _ (.tmp 74) (.tmp 75) _, type := _, pos := _, after := _, guard := _ }) (v := ?_) rfl (by kernel_rfl) (by kernel_rfl) (by kernel_rfl) (fun _ _ _ h => h) (Or.inl ⟨by rfl, ?_⟩) (by assumption) ?_
  rotate_left 1
  · intro v hSv
    clear hSv
    go_simp
    try with_reducible rfl
  try simp only [Act.put, List.setIfInBounds_toArray, List.set_cons_zero, List.set_cons_succ]
  refine wpAnyH_take (i := 45) (oi := { dst := some 77, op := .pick (.tmp 71) (.tmp 76) (.const (.bool false)), type := _, pos := _, after := _, guard := _ }) (v := ?_) rfl (by kernel_rfl) (by kernel_rfl) (by kernel_rfl) (fun _ _ _ h => h) (Or.inl ⟨by rfl, ?_⟩) (by assumption) ?_
  rotate_left 1
  · intro v hSv
    clear hSv
    go_simp
    try with_reducible rfl
  try simp only [Act.put, List.setIfInBounds_toArray, List.set_cons_zero, List.set_cons_succ]
  refine wpAnyH_take (i := 46) (oi := { dst := some 0, op := .assign (.tmp 77), type := _, pos := _, after := _, guard := _ }) (v := ?_) rfl (by kernel_rfl) (by kernel_rfl) (by kernel_rfl) (fun _ _ _ h => h) (Or.inl ⟨by rfl, ?_⟩) (by assumption) ?_
  rotate_left 1
  · intro v hSv
    clear hSv
    go_simp
    try with_reducible rfl
  try simp only [Act.put, List.setIfInBounds_toArray, List.set_cons_zero, List.set_cons_succ]
  refine wpAnyH_done (by kernel_rfl) ?_ _
  go_wp2_with fail
  go_ret
  exact ⟨rfl, HBX.out _ (hb3)⟩
end Go.Proofs.YtnmbbfndboohjaaGreatDoor
