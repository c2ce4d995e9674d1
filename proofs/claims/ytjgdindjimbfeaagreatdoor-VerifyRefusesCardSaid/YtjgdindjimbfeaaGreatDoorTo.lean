import Derived.Test.YtjgdindjimbfeaaGreatDoorTJ
import Derived.Test.YtjgdindjimbfeaaGreatDoorM6
import Derived.Test.YtjgdindjimbfeaaGreatDoorCD
import Derived.Test.YtjgdindjimbfeaaGreatDoorCA
namespace Go.Proofs.YtjgdindjimbfeaaGreatDoor
set_option linter.unusedSimpArgs false
set_option linter.unusedVariables false
set_option maxHeartbeats 16000000
set_option maxRecDepth 100000
open Go.RowKit
theorem bldPf_none18 (w : World) : bldA 53 w #[] = .ok (.value (.agg (pfC zPf (.slice none 0 0)))) w := by kernel_rfl
theorem mk32_18 (w : World) : (Instr.makeSlice 22 (.int .i64 32) (.int .i64 32)).run Tryz.prog w = .ok (.slice (some ⟨w.heap.size, 0, none⟩) 32 32) (w.alloc (.cells (bA z26) 5)) := by kernel_rfl
theorem z26_bits18 : ∀ n, n ≤ 256 → Bt.setZ (keyF z26) n = [] ∧ Bt.lastTo (keyF z26) n = -1
 | 0, _ => ⟨rfl, rfl⟩
 | n + 1, h => by
  obtain ⟨h1, h2⟩ := z26_bits18 n (by omega)
  have hb : ¬ Bt.bit (keyF z26) n = 1 := by
   have : keyF z26 (n / 8) = 0 := by
    unfold keyF z26
    rw [List.getD_eq_getElem?_getD, List.getElem?_replicate, if_pos (by omega)]; rfl
   unfold Bt.bit
   rw [this]; simp
  unfold Bt.setZ Bt.lastTo
  rw [if_neg hb, if_neg hb]
  exact ⟨h1, h2⟩
theorem chk_zero18 : chkP zPf = 0 := chkP_ok (.inl rfl) ⟨Int.le_refl 0, by decide, fun _ => rfl, by rw [show zPf.bm = z26 from rfl, (z26_bits18 256 (Nat.le_refl _)).1]; rfl, by rw [show zPf.bm = z26 from rfl, (z26_bits18 256 (Nat.le_refl _)).2]; rfl⟩
theorem BA_row18 {w : World} {g : Nat} {l : List UInt8} {t : TypeId} {fr : Nat × Nat} (h : w.heap[g]? = some (.cells (bA l) t fr)) : BA w (some ⟨g, 0, none⟩) l := fun j x hx => by
 refine ⟨g, 0, rfl, ?_⟩
 have hj := (List.getElem?_eq_some_iff.1 hx).1
 rw [cell_of_cells h, Nat.zero_add, bA_at _ _ hj]
 simp [List.getD_eq_getElem?_getD, hx, bv]
theorem BA.take18 {w : World} {A : Option Addr} {l : List UInt8} (h : BA w A l) (n : Nat) : BA w A (l.take n) := fun j x hx => by
 refine h j x ?_
 rw [List.getElem?_take] at hx
 split at hx
 ·exact hx
 ·cases hx
theorem errVar_hs18 {w w' : World} {b : Nat} {n : Int} {c : Nat} (h : Ft.ErrVar w) (hs : Hs w b n c) (k : Keep (fun i => i = b) w w') : Ft.ErrVar w' :=
 k.cellAt h fun e => by
  have h3 := h
  unfold Ft.ErrVar at h3
  have e3 := e
  dsimp at e3
  subst e3
  rw [cell_of_cells hs] at h3
  cases h3
def cE18 : Cl := ⟨[], [], false⟩
def cZ18 : Cl := ⟨z26, [], false⟩
theorem cE_ok (w : World) : ClOk w cE18 none 0 none 0 := ⟨fun j x hx => by simp [cE18] at hx, Nat.le_refl _, fun j x hx => by simp [cE18] at hx, Nat.le_refl _⟩
theorem ck_31 {l : List UInt8} (n : Int) (c : Cl) (bs : List UInt8) (h : l.length = 31) : ckV n l c bs = (0, 4) := by
 unfold ckV
 rw [if_pos (by omega)]
def HsLe (w : World) (b k : Nat) : Prop := ∃ m : Nat, m ≤ 259 * k ∧ Hs w b 256 m
theorem HsLe.below {w w' : World} {b k : Nat} (h : HsLe w b k) (hb : Below w.heap.size w w') : HsLe w' b (k + 1) := by
 obtain ⟨m, h1, h2⟩ := h
 exact ⟨m, by omega, h2.keep (Keep.of_below (L := fun _ => False) hb) id⟩
theorem sup_zero18 : supP zPf z26 z26 false = true := rfl
theorem emp_ne18 : digL 256 emptyL ≠ z26 := by
 rw [dig_all _ (Int.le_refl _)]
 intro h
 have := congrArg (List.take 4) h
 revert this
 decide +kernel
theorem last_zero18 {dg : List UInt8} (h : dg = digL 256 emptyL) : lastV18 256 dg cZ18 zPf = (0, 0) := by
 unfold lastV18
 rw [if_neg (by rw [show supP zPf cZ18.k (valD 256 cZ18) cZ18.pr = true from sup_zero18]; decide), if_neg (by rw [show rootP 256 zPf cZ18.k = dg from h.symm]; exact fun e => e rfl)]
theorem last_bad18 : lastV18 256 z26 cZ18 zPf = (5, 13) := by
 unfold lastV18
 rw [if_neg (by rw [show supP zPf cZ18.k (valD 256 cZ18) cZ18.pr = true from sup_zero18]; decide), if_pos (show rootP 256 zPf cZ18.k ≠ z26 from emp_ne18)]
theorem acc_zero18 {dg : List UInt8} (h : dg = digL 256 emptyL) : accV 256 dg cZ18 zPf = true := by
 unfold accV
 rw [last_zero18 h, chk_zero18]; rfl
theorem acc_bad18 : accV 256 z26 cZ18 zPf = false := by
 unfold accV
 rw [last_bad18, Bool.and_eq_false_iff]; exact .inr rfl
theorem ck_zero18 {dg : List UInt8} (h : dg = digL 256 emptyL) (hl : dg.length = 32) : ckV 256 dg cZ18 (encP zPf) = (0, 0) := by
 unfold ckV
 rw [if_neg (by omega), if_neg (by decide), if_neg (by rw [(dec_enc zPf_ok chk_zero18).1]; decide), (dec_enc zPf_ok chk_zero18).2, last_zero18 h]
theorem bldDig_none18 (w : World) : bldA 47 w #[] = .ok (.value (.agg (bA z26))) w := by kernel_rfl
theorem alive18_c (ve : VeV) (co : CoV) (w : World) (hvx : Vars w) (hex : Ft.ErrVar w) : Calls Tryz.prog 11 #[] w (Aye w) := by
 have HVX := Lib.hid hvx
 have HEX := Lib.hid hex
 obtain ⟨dg, hdg⟩ : ∃ dg, dg = digL 256 emptyL := ⟨_, rfl⟩
 have HDG := Lib.hid hdg
 have HDL : Hid (dg.length = 32) := by show _ = _; rw [hdg]; exact dig_len _ _
 have HH := Lib.hid (hash_in 256 w (by decide) (by decide))
 clear hvx hex hdg
 go_enter Tryz.func11, Tryz.ntmps11
 go_wp2_with fail
 refine HH.out.mono ?_
 rintro _ w1 ⟨b, rfl, hb, hH, hB⟩
 have HB1 := Lib.hid hB
 have HN1 := Lib.hid hb
 have HV1 := Lib.hid (HVX.out.below hB)
 have HE1 := Lib.hid (HEX.out.below hB)
 have HH1 := Lib.hid hH
 clear hb hH hB HH
 have HEM : Hid (Calls Tryz.prog 30 #[.int .i64 256] w1 fun e w' => e = .returned (.agg (bA dg)) ∧ Below w1.heap.size w1 w') := by
  rw [HDG.out]; exact rempty_c 256 w1
 go_wp2_with fail
 refine HEM.out.mono ?_
 rintro _ w2 ⟨rfl, hb2⟩
 have HB2 := Lib.hid (keeps HB1.out hb2)
 have HV2 := Lib.hid (HV1.out.below hb2)
 have HE2 := Lib.hid (HE1.out.below hb2)
 have HH2 := Lib.hid (HH1.out.keep (Keep.of_below (L := fun _ => False) hb2) id)
 clear hb2 HEM
 have st2 := stA_new (t := 47) w2 (bA z26) (bA dg) (by rw [bA_size, HDL.out]; exact info26) (by rw [bA_size, bA_size, HDL.out]; rfl) (bA_one _)
 have bp := bldPf_none18
 obtain ⟨Y, hY⟩ : ∃ Y, Y = w2.alloc (.cells (bA dg) 47) := ⟨_, rfl⟩
 have hbY : Below w2.heap.size w2 Y := by rw [hY]; exact Bt.one_below _ _
 have HDR : Hid (Y.heap[w2.heap.size]? = some (.cells (bA dg) 47 (0, 0))) := by show _ = _; rw [hY]; exact heap_alloc_new w2 _
 have HBY := Lib.hid (keeps HB2.out hbY)
 have HVY := Lib.hid (HV2.out.below hbY)
 have HEY := Lib.hid (HE2.out.below hbY)
 have HHY := Lib.hid (HH2.out.keep (Keep.of_below (L := fun _ => False) hbY) id)
 have HNG : Hid (w2.heap.size < Y.heap.size) := by show _ < _; rw [hY, World.size_alloc]; exact Nat.lt_succ_self _
 have HNB : Hid (¬ w2.heap.size = b) := fun e => by have := lt_of_heap HH2.out; omega
 rw [← hY] at st2
 obtain ⟨bs, hbs⟩ : ∃ bs, bs = encP zPf := ⟨_, rfl⟩
 have HC := co.encode Y zPf none 0 zPf_ok (DS.nil _ _) (Nat.le_refl _) (by decide) chk_zero18
 rw [← hbs] at HC
 have HC := Lib.hid HC
 have HBS := Lib.hid hbs
 have HWY := Lib.hid hY
 clear hY hbY hbs
 go_wp2_with fail
 refine HC.out.mono ?_
 rintro _ w3 ⟨v3, rfl, hO3, hb3⟩
 obtain ⟨D, cd, rfl, hcd, hD3⟩ := hO3.any
 have HCD := Lib.hid hcd
 have HD3 := Lib.hid hD3
 have HB3 := Lib.hid (keeps HBY.out hb3)
 have HV3 := Lib.hid (HVY.out.below hb3)
 have HE3 := Lib.hid (HEY.out.below hb3)
 have HH3 := Lib.hid (HHY.out.keep (Keep.of_below (L := fun _ => False) hb3) id)
 have HR3 : Hid (w3.heap[w2.heap.size]? = some (.cells (bA dg) 47 (0, 0))) := by show _ = _; rw [hb3.block _ HNG.out]; exact HDR.out
 clear hO3 hcd hD3 hb3 HC st2 bp
 have mk := mk32_18 w3
 obtain ⟨Z, hZ⟩ : ∃ Z, Z = (w3.alloc (.cells (bA z26) 5)).alloc (.cells #[.slice (some ⟨w3.heap.size, 0, none⟩) 32 32, .slice none 0 0, .bool false] 24) := ⟨_, rfl⟩
 have hbZ : Below w3.heap.size w3 Z := by rw [hZ]; exact Bt.two_below _ _ _
 have HBZ := Lib.hid (keeps HB3.out hbZ)
 have HVZ := Lib.hid (HV3.out.below hbZ)
 have HEZ := Lib.hid (HE3.out.below hbZ)
 have HHZ := Lib.hid (HH3.out.keep (Keep.of_below (L := fun _ => False) hbZ) id)
 have HRZ : Hid (Z.heap[w2.heap.size]? = some (.cells (bA dg) 47 (0, 0))) := by show _ = _; rw [hbZ.block _ (lt_of_heap HR3.out)]; exact HR3.out
 have HKZ : Hid (Z.heap[w3.heap.size]? = some (.cells (bA z26) 5 (0, 0))) := by show _ = _; rw [hZ]; exact heap_alloc2_old w3 _ _
 have HCZ : Hid (ClAt Z (w3.heap.size + 1) cZ18 (some ⟨w3.heap.size, 0, none⟩) 32 none 0) := by show ClAt _ _ _ _ _ _ _; rw [hZ]; exact heap_alloc2_new w3 _ _
 have HDZ := Lib.hid (HD3.out.below hbZ)
 have HN3 : Hid (b < w3.heap.size) := lt_of_heap HH3.out
 have HVF := ve.verify Z b 256 0 (dg.take 31) (some ⟨w2.heap.size, 0, none⟩) 32 cE18 none none 0 0 [] none 0 HHZ.out (by decide) HVZ.out ((BA_row18 HRZ.out).take18 31) (by rw [List.length_take]; omega) (cE_ok Z) (fun j x hx => by simp at hx) (Nat.le_refl _) (by decide)
 have hl31 : (dg.take 31).length = 31 := by rw [List.length_take, HDL.out]; rfl
 rw [ck_31 256 cE18 [] hl31, hl31] at HVF
 have HVF : Hid (Calls Tryz.prog 16 #[ptr b, .slice (some ⟨w2.heap.size, 0, none⟩) 31 32, .agg #[.slice none 0 0, .slice none 0 0, .bool false], .slice none 0 0] Z fun e w' => ∃ x m', e = .returned x ∧ Wr18 w' 0 4 x ∧ m' ≤ 0 + 259 ∧ Hs w' b 256 m' ∧ Keep (fun i => i = b) Z w') :=
  HVF.mono fun e w' ⟨x, m', h1, _, h3, h4, h5, h6⟩ => ⟨x, m', h1, h3 (by decide), h4, h5, h6⟩
 have HWZ := Lib.hid hZ
 clear hZ hbZ hl31
 go_wp2_with fail
 rw [← HWZ.out]
 refine HVF.out.mono ?_
 rintro _ w4 ⟨y, m4, rfl, hw4, hm4, hH4, hK4⟩
 have HB4 := Lib.hid (keep_new HBZ.out HN1.out hK4)
 have HW4 := Lib.hid hw4
 have HM4 := Lib.hid hm4
 have HH4 := Lib.hid hH4
 have HV4 := Lib.hid (HVZ.out.hs HHZ.out hK4)
 have HE4 := Lib.hid (errVar_hs18 HEZ.out HHZ.out hK4)
 have HR4 : Hid (w4.heap[w2.heap.size]? = some (.cells (bA dg) 47 (0, 0))) := hK4.heap HRZ.out HNB.out
 have HK4 : Hid (w4.heap[w3.heap.size]? = some (.cells (bA z26) 5 (0, 0))) := hK4.heap HKZ.out (fun e => by have := HN3.out; omega)
 have HC4 : Hid (ClAt w4 (w3.heap.size + 1) cZ18 (some ⟨w3.heap.size, 0, none⟩) 32 none 0) := hK4.heap HCZ.out (fun e => by have := HN3.out; omega)
 have HD4 := Lib.hid (HDZ.out.hs16 HHZ.out hK4)
 obtain ⟨g, hf⟩ := hw4
 have HF := Lib.hid hf
 obtain ⟨rfl, v', hg, rfl⟩ := hf
 have H1 := Lib.hid (Ft.first_some g ⟨vrfB.toArray⟩ 0 _ w4 hg)
 clear hm4 hH4 hK4 hg mk HVF
 go_wp2_with fail
 refine H1.out.mono ?_
 rintro _ w5 ⟨rfl, hb5⟩
 have HBW : Hid (Below w4.heap.size w4 w5) := hb5
 have HM0 : Hid (m4 ≤ 259) := by have := HM4.out; show m4 ≤ 259; omega
 have HB5 := Lib.hid (keeps HB4.out hb5)
 have HV5 := Lib.hid (HV4.out.below hb5)
 have HE5 := Lib.hid (HE4.out.below hb5)
 have HH5 := Lib.hid (HH4.out.keep (Keep.of_below (L := fun _ => False) hb5) id)
 have HR5 : Hid (w5.heap[w2.heap.size]? = some (.cells (bA dg) 47 (0, 0))) := by show _ = _; rw [hb5.block _ (lt_of_heap HR4.out)]; exact HR4.out
 have HK5' : Hid (w5.heap[w3.heap.size]? = some (.cells (bA z26) 5 (0, 0))) := by show _ = _; rw [hb5.block _ (lt_of_heap HK4.out)]; exact HK4.out
 have HC5 : Hid (ClAt w5 (w3.heap.size + 1) cZ18 (some ⟨w3.heap.size, 0, none⟩) 32 none 0) := HC4.out.below hb5 (lt_of_heap HC4.out)
 have HD5 := Lib.hid (HD4.out.below hb5)
 have HF5 := Lib.hid (HF.out.below hb5)
 clear hb5 H1 HF
 have HNK : Hid (¬ w3.heap.size = b) := fun e => by have := HN3.out; omega
 have HNC : Hid (¬ w3.heap.size + 1 = b) := fun e => by have := HN3.out; omega
 have HBX : Hid (∀ w', Keep (fun i => i = b) w5 w' → Below w.heap.size w w') := fun w' h => keep_new HB5.out HN1.out h
 have LE : Hid (∀ v, Keep (fun i => i = b) w5 v → ldA 47 v (.pointer (some ⟨w2.heap.size, 0, none⟩)) = .ok (.value (.agg (bA dg))) v) := fun v h => RowB.ldDig (show v.heap[w2.heap.size]? = _ from h.heap HR5.out HNB.out) HDL.out
 have LC : Hid (∀ v, Keep (fun i => i = b) w5 v → ldA 24 v (.pointer (some ⟨w3.heap.size + 1, 0, none⟩)) = .ok (.value (.agg #[.slice (some ⟨w3.heap.size, 0, none⟩) 32 32, .slice none 0 0, .bool false])) v) := fun v h => ClAt.ld (c := cZ18) (h.heap HC5.out HNC.out)
 have HVV : Hid (∀ v, Keep (fun i => i = b) w5 v → Vars v) := fun v h => HV5.out.hs HH5.out h
 have HEV : Hid (∀ v, Keep (fun i => i = b) w5 v → Ft.ErrVar v) := fun v h => errVar_hs18 HE5.out HH5.out h
 have HRV : Hid (∀ v, Keep (fun i => i = b) w5 v → BA v (some ⟨w2.heap.size, 0, none⟩) dg) := fun v h => BA_row18 (h.heap HR5.out HNB.out)
 have HDV : Hid (∀ v, Keep (fun i => i = b) w5 v → BA v D bs) := fun v h => HD5.out.hs16 HH5.out h
 have HOV : Hid (∀ v, Keep (fun i => i = b) w5 v → ClOk v cZ18 (some ⟨w3.heap.size, 0, none⟩) 32 none 0) := fun v h => ⟨BA_row18 (h.heap HK5'.out HNK.out), Nat.le_refl _, fun j x hx => by simp [cZ18] at hx, Nat.le_refl _⟩
 have HBL : Hid (bs.length ≤ 1000000) := by show _ ≤ _; rw [HBS.out, encP_len zPf_ok]; decide
 have HK1 : Hid (∀ v k, k ≤ 1000 → Keep (fun i => i = b) w5 v → HsLe v b k.succ → Calls Tryz.prog 14 #[ptr b, .slice (some ⟨w2.heap.size, 0, none⟩) 31 32, .agg #[.slice none 0 0, .slice none 0 0, .bool false], .slice none 0 0] v fun e w' => e = .returned (.int .i64 4) ∧ HsLe w' b (k + 1).succ ∧ Keep (fun i => i = b) v w') := fun v k hk h ⟨m, h1, h2⟩ => by
  have hl31 : (dg.take 31).length = 31 := by rw [List.length_take, HDL.out]; rfl
  have := ve.check v b 256 m (dg.take 31) (some ⟨w2.heap.size, 0, none⟩) 32 cE18 none none 0 0 [] none 0 h2 (by omega) (HVV.out v h) (HEV.out v h) ((HRV.out v h).take18 31) (by omega) (cE_ok v) (fun j x hx => by simp at hx) (Nat.le_refl _) (by decide)
  rw [ck_31 256 cE18 [] hl31, hl31] at this
  exact this.mono fun e w' ⟨m', g1, g2, g3, g4⟩ => ⟨g1, ⟨m', by omega, g3⟩, g4⟩
 have HK2 : Hid (∀ v, Keep (fun i => i = b) w5 v → Calls Tryz.prog 18 #[.iface 92 (.pointer (some ⟨g, 0, none⟩))] v fun e w' => e = .returned (.int .i64 4) ∧ Below v.heap.size v w') := fun v h => by
  refine Ft.code_some [⟨g, ⟨vrfB.toArray⟩, 0⟩] 4 _ v ?_ (HEV.out v h) (by simp)
  obtain ⟨_, v', hg5, ev⟩ := HF5.out
  have hgb : ¬ g = b := fun e => by
   subst e
   have h5 := hg5.symm.trans HH5.out
   cases h5
  exact ⟨rfl, v', h.heap hg5 hgb, ev⟩
 have HK3 : Hid (∀ v k, k ≤ 1000 → Keep (fun i => i = b) w5 v → HsLe v b k.succ → Calls Tryz.prog 14 #[ptr b, .slice (some ⟨w2.heap.size, 0, none⟩) 32 32, .agg #[.slice (some ⟨w3.heap.size, 0, none⟩) 32 32, .slice none 0 0, .bool false], .slice D bs.length cd] v fun e w' => e = .returned (.int .i64 0) ∧ HsLe w' b (k + 1).succ ∧ Keep (fun i => i = b) v w') := fun v k hk h ⟨m, h1, h2⟩ => by
  have := ve.check v b 256 m dg (some ⟨w2.heap.size, 0, none⟩) 32 cZ18 (some ⟨w3.heap.size, 0, none⟩) none 32 0 bs D cd h2 (by omega) (HVV.out v h) (HEV.out v h) (HRV.out v h) (by rw [HDL.out]; exact Nat.le_refl _) (HOV.out v h) (HDV.out v h) HCD.out HBL.out
  rw [show ckV 256 dg cZ18 bs = (0, 0) by rw [HBS.out]; exact ck_zero18 HDG.out HDL.out, HDL.out] at this
  exact this.mono fun e w' ⟨m', g1, g2, g3, g4⟩ => ⟨g1, ⟨m', by omega, g3⟩, g4⟩
 have HK4 : Hid (∀ v k, k ≤ 1000 → Keep (fun i => i = b) w5 v → HsLe v b k.succ → Calls Tryz.prog 16 #[ptr b, .slice (some ⟨w2.heap.size, 0, none⟩) 32 32, .agg #[.slice (some ⟨w3.heap.size, 0, none⟩) 32 32, .slice none 0 0, .bool false], .slice D bs.length cd] v fun e w' => e = .returned .nilIface ∧ HsLe w' b (k + 1).succ ∧ Keep (fun i => i = b) v w') := fun v k hk h ⟨m, h1, h2⟩ => by
  have := ve.verify v b 256 m dg (some ⟨w2.heap.size, 0, none⟩) 32 cZ18 (some ⟨w3.heap.size, 0, none⟩) none 32 0 bs D cd h2 (by omega) (HVV.out v h) (HRV.out v h) (by rw [HDL.out]; exact Nat.le_refl _) (HOV.out v h) (HDV.out v h) HCD.out HBL.out
  rw [show ckV 256 dg cZ18 bs = (0, 0) by rw [HBS.out]; exact ck_zero18 HDG.out HDL.out, HDL.out] at this
  exact this.mono fun e w' ⟨x, m', g1, g0, _, g2, g3, g4⟩ => ⟨by rw [g1, g0 rfl], ⟨m', by omega, g3⟩, g4⟩
 have HK5 : Hid (∀ v, Keep (fun i => i = b) w5 v → Calls Tryz.prog 20 #[.agg #[.slice none 0 0, .slice none 0 0, .bool false]] v fun e w' => e = .returned (.int .i64 2) ∧ Below v.heap.size v w') := fun v h => ve.claim v cE18 none none 0 0 (HEV.out v h)
 have HK6 : Hid (∀ v k, k ≤ 1000 → Keep (fun i => i = b) w5 v → HsLe v b k.succ → Calls Tryz.prog 23 #[ptr b, .agg (bA dg), .agg #[.slice (some ⟨w3.heap.size, 0, none⟩) 32 32, .slice none 0 0, .bool false], .agg (pfC zPf (.slice none 0 0))] v fun e w' => e = .returned (.bool true) ∧ HsLe w' b (k + 1).succ ∧ Keep (fun i => i = b) v w') := fun v k hk h ⟨m, h1, h2⟩ => by
  have := ve.accepts v b 256 m dg cZ18 (some ⟨w3.heap.size, 0, none⟩) none 32 0 zPf none 0 h2 (by omega) (HVV.out v h) HDL.out (HOV.out v h) zPf_ok (DS.nil _ _) (Nat.le_refl _) (by decide)
  rw [acc_zero18 HDG.out] at this
  exact this.mono fun e w' ⟨m', g1, g2, g3, g4⟩ => ⟨g1, ⟨m', by omega, g3⟩, g4⟩
 have HK7 : Hid (∀ v k, k ≤ 1000 → Keep (fun i => i = b) w5 v → HsLe v b k.succ → Calls Tryz.prog 23 #[ptr b, .agg (bA z26), .agg #[.slice (some ⟨w3.heap.size, 0, none⟩) 32 32, .slice none 0 0, .bool false], .agg (pfC zPf (.slice none 0 0))] v fun e w' => e = .returned (.bool false) ∧ HsLe w' b (k + 1).succ ∧ Keep (fun i => i = b) v w') := fun v k hk h ⟨m, h1, h2⟩ => by
  have := ve.accepts v b 256 m z26 cZ18 (some ⟨w3.heap.size, 0, none⟩) none 32 0 zPf none 0 h2 (by omega) (HVV.out v h) rfl (HOV.out v h) zPf_ok (DS.nil _ _) (Nat.le_refl _) (by decide)
  rw [acc_bad18] at this
  exact this.mono fun e w' ⟨m', g1, g2, g3, g4⟩ => ⟨g1, ⟨m', by omega, g3⟩, g4⟩
 have HF0 : Hid (HsLe w5.drew b (Nat.succ 0)) := ⟨m4, HM0.out, HH5.out⟩
 have bp := bldPf_none18
 have bd := bldDig_none18
 go_wp2_with fail
 refine wp_region_held_drew (S := fun w' => Keep (fun i => i = b) w5 w') (by kernel_rfl) ((Keep.refl _ _).drew) (fun hHeld => ?_)
 have hb0 : Keep (fun i => i = b) w5 w5.drew := (Keep.refl _ _).drew
 refine x_t (i := 0) (oi := { dst := some 31, op := .move (.tmp 4), .. }) (v := ?_) rfl (Or.inl ⟨by rfl, ?_⟩) ?_
 rotate_left 1
 ·intro v hSv
  clear hSv
  go_simp
  try with_reducible rfl
 try simp only [Act.put, x_A, x_0, x_1]
 refine x_t (i := 1) (oi := { dst := some 32, op := .binOp .eql _ (.tmp 31) (.const (.int .i64 0)) _, .. }) (v := ?_) rfl (Or.inl ⟨by rfl, ?_⟩) ?_
 rotate_left 1
 ·intro v hSv
  clear hSv
  go_simp
  try with_reducible rfl
 try simp only [Act.put, x_A, x_0, x_1]
 refine x_t (i := 2) (oi := { dst := some 33, op := .move (.tmp 32), .. }) (v := ?_) rfl (Or.inl ⟨by rfl, ?_⟩) ?_
 rotate_left 1
 ·intro v hSv
  clear hSv
  go_simp
  try with_reducible rfl
 try simp only [Act.put, x_A, x_0, x_1]
 refine x_t (i := 3) (oi := { dst := some 34, op := .move (.tmp 1), .. }) (v := ?_) rfl (Or.inl ⟨by rfl, ?_⟩) ?_
 rotate_left 1
 ·intro v hSv
  clear hSv
  go_simp
  try with_reducible rfl
 try simp only [Act.put, x_A, x_0, x_1]
 refine x_t (i := 4) (oi := { dst := some 35, op := .slice _ (.tmp 2) none (some (.const (.int .i64 31))) none, .. }) (v := ?_) rfl (Or.inl ⟨by rfl, ?_⟩) ?_
 rotate_left 1
 ·intro v hSv
  clear hSv
  go_simp
  try with_reducible rfl
 try simp only [Act.put, x_A, x_0, x_1]
 refine x_t (i := 5) (oi := { dst := some 36, op := .build _ #[], .. }) (v := ?_) rfl (Or.inl ⟨by rfl, ?_⟩) ?_
 rotate_left 1
 ·intro v hSv
  clear hSv
  go_simp
  try with_reducible rfl
 try simp only [Act.put, x_A, x_0, x_1]
 refine wpAnyH_ready (rs := [6]) (by kernel_rfl) (by simp) ?_
 refine AllReadyH.cons (o := { dst := some 37, op := .call _, .. }) rfl (fun K hK => ?_) AllReadyH.nil
 go_simp
 refine (HK1.out _ 0 (by decide) (by assumption) HF0.out).mono ?_
 rintro e y1 ⟨rfl, hh, hb⟩
 have hb1 : Keep (fun i => i = b) w5 y1 := (hb0).trans hb
 have HF1 := Lib.hid hh
 clear hh
 clear hb
 go_wp2_with fail
 refine hK.out _ _ (hb1) (fun hHeld => ?_)
 clear hK K
 try simp only [Act.put, x_A, x_0, x_1]
 refine x_t (i := 7) (oi := { dst := some 38, op := .binOp .eql _ (.tmp 37) (.const (.int .i64 4)) _, .. }) (v := ?_) rfl (Or.inl ⟨by rfl, ?_⟩) ?_
 rotate_left 1
 ·intro v hSv
  clear hSv
  go_simp
  try with_reducible rfl
 try simp only [Act.put, x_A, x_0, x_1]
 refine x_t (i := 8) (oi := { dst := some 39, op := .pick (.tmp 33) (.tmp 38) (.const (.bool false)), .. }) (v := ?_) rfl (Or.inl ⟨by rfl, ?_⟩) ?_
 rotate_left 1
 ·intro v hSv
  clear hSv
  go_simp
  try with_reducible rfl
 try simp only [Act.put, x_A, x_0, x_1]
 refine x_t (i := 9) (oi := { dst := some 40, op := .move (.tmp 39), .. }) (v := ?_) rfl (Or.inl ⟨by rfl, ?_⟩) ?_
 rotate_left 1
 ·intro v hSv
  clear hSv
  go_simp
  try with_reducible rfl
 try simp only [Act.put, x_A, x_0, x_1]
 refine x_t (i := 10) (oi := { dst := some 41, op := .move (.tmp 6), .. }) (v := ?_) rfl (Or.inl ⟨by rfl, ?_⟩) ?_
 rotate_left 1
 ·intro v hSv
  clear hSv
  go_simp
  try with_reducible rfl
 try simp only [Act.put, x_A, x_0, x_1]
 refine wpAnyH_ready (rs := [11]) (by kernel_rfl) (by simp) ?_
 refine AllReadyH.cons (o := { dst := some 42, op := .call _, .. }) rfl (fun K hK => ?_) AllReadyH.nil
 go_simp
 refine (HK2.out _ (by assumption)).mono ?_
 rintro e y2 ⟨rfl, hb⟩
 have hb2 : Keep (fun i => i = b) w5 y2 := (hb1).trans (Keep.of_below hb)
 have HF2 := Lib.hid (HF1.out.below hb)
 clear hb
 go_wp2_with fail
 refine hK.out _ _ (hb2) (fun hHeld => ?_)
 clear hK K
 try simp only [Act.put, x_A, x_0, x_1]
 refine x_t (i := 12) (oi := { dst := some 43, op := .binOp .eql _ (.tmp 42) (.const (.int .i64 4)) _, .. }) (v := ?_) rfl (Or.inl ⟨by rfl, ?_⟩) ?_
 rotate_left 1
 ·intro v hSv
  clear hSv
  go_simp
  try with_reducible rfl
 try simp only [Act.put, x_A, x_0, x_1]
 refine x_t (i := 13) (oi := { dst := some 44, op := .pick (.tmp 40) (.tmp 43) (.const (.bool false)), .. }) (v := ?_) rfl (Or.inl ⟨by rfl, ?_⟩) ?_
 rotate_left 1
 ·intro v hSv
  clear hSv
  go_simp
  try with_reducible rfl
 try simp only [Act.put, x_A, x_0, x_1]
 refine x_t (i := 14) (oi := { dst := some 45, op := .move (.tmp 44), .. }) (v := ?_) rfl (Or.inl ⟨by rfl, ?_⟩) ?_
 rotate_left 1
 ·intro v hSv
  clear hSv
  go_simp
  try with_reducible rfl
 try simp only [Act.put, x_A, x_0, x_1]
 refine x_t (i := 15) (oi := { dst := some 46, op := .move (.tmp 7), .. }) (v := ?_) rfl (Or.inl ⟨by rfl, ?_⟩) ?_
 rotate_left 1
 ·intro v hSv
  clear hSv
  go_simp
  try with_reducible rfl
 try simp only [Act.put, x_A, x_0, x_1]
 refine x_t (i := 16) (oi := { dst := some 47, op := .binOp .eql _ (.tmp 46) (.const (.string { data := #[118, 101, 114, 105, 102, 121] })) _, .. }) (v := ?_) rfl (Or.inl ⟨by rfl, ?_⟩) ?_
 rotate_left 1
 ·intro v hSv
  clear hSv
  go_simp
  try with_reducible rfl
 try simp only [Act.put, x_A, x_0, x_1]
 refine x_t (i := 17) (oi := { dst := some 48, op := .pick (.tmp 45) (.tmp 47) (.const (.bool false)), .. }) (v := ?_) rfl (Or.inl ⟨by rfl, ?_⟩) ?_
 rotate_left 1
 ·intro v hSv
  clear hSv
  go_simp
  try with_reducible rfl
 try simp only [Act.put, x_A, x_0, x_1]
 refine x_t (i := 18) (oi := { dst := some 49, op := .move (.tmp 48), .. }) (v := ?_) rfl (Or.inl ⟨by rfl, ?_⟩) ?_
 rotate_left 1
 ·intro v hSv
  clear hSv
  go_simp
  try with_reducible rfl
 try simp only [Act.put, x_A, x_0, x_1]
 refine x_t (i := 19) (oi := { dst := some 50, op := .move (.tmp 8), .. }) (v := ?_) rfl (Or.inl ⟨by rfl, ?_⟩) ?_
 rotate_left 1
 ·intro v hSv
  clear hSv
  go_simp
  try with_reducible rfl
 try simp only [Act.put, x_A, x_0, x_1]
 refine x_t (i := 20) (oi := { dst := some 51, op := .binOp .eql _ (.tmp 50) (.const (.int .i64 0)) _, .. }) (v := ?_) rfl (Or.inl ⟨by rfl, ?_⟩) ?_
 rotate_left 1
 ·intro v hSv
  clear hSv
  go_simp
  try with_reducible rfl
 try simp only [Act.put, x_A, x_0, x_1]
 refine x_t (i := 21) (oi := { dst := some 52, op := .pick (.tmp 49) (.tmp 51) (.const (.bool false)), .. }) (v := ?_) rfl (Or.inl ⟨by rfl, ?_⟩) ?_
 rotate_left 1
 ·intro v hSv
  clear hSv
  go_simp
  try with_reducible rfl
 try simp only [Act.put, x_A, x_0, x_1]
 refine x_t (i := 22) (oi := { dst := some 53, op := .move (.tmp 52), .. }) (v := ?_) rfl (Or.inl ⟨by rfl, ?_⟩) ?_
 rotate_left 1
 ·intro v hSv
  clear hSv
  go_simp
  try with_reducible rfl
 try simp only [Act.put, x_A, x_0, x_1]
 refine x_t (i := 23) (oi := { dst := some 54, op := .move (.tmp 9), .. }) (v := ?_) rfl (Or.inl ⟨by rfl, ?_⟩) ?_
 rotate_left 1
 ·intro v hSv
  clear hSv
  go_simp
  try with_reducible rfl
 try simp only [Act.put, x_A, x_0, x_1]
 refine x_t (i := 24) (oi := { dst := some 55, op := .pick (.tmp 53) (.tmp 54) (.const (.bool false)), .. }) (v := ?_) rfl (Or.inl ⟨by rfl, ?_⟩) ?_
 rotate_left 1
 ·intro v hSv
  clear hSv
  go_simp
  try with_reducible rfl
 try simp only [Act.put, x_A, x_0, x_1]
 refine x_t (i := 25) (oi := { dst := some 56, op := .move (.tmp 55), .. }) (v := ?_) rfl (Or.inl ⟨by rfl, ?_⟩) ?_
 rotate_left 1
 ·intro v hSv
  clear hSv
  go_simp
  try with_reducible rfl
 try simp only [Act.put, x_A, x_0, x_1]
 refine x_t (i := 26) (oi := { dst := some 57, op := .move (.tmp 1), .. }) (v := ?_) rfl (Or.inl ⟨by rfl, ?_⟩) ?_
 rotate_left 1
 ·intro v hSv
  clear hSv
  go_simp
  try with_reducible rfl
 try simp only [Act.put, x_A, x_0, x_1]
 refine x_t (i := 27) (oi := { dst := some 58, op := .slice _ (.tmp 2) none none none, .. }) (v := ?_) rfl (Or.inl ⟨by rfl, ?_⟩) ?_
 rotate_left 1
 ·intro v hSv
  clear hSv
  go_simp
  try with_reducible rfl
 try simp only [Act.put, x_A, x_0, x_1]
 refine x_t (i := 28) (oi := { dst := some 59, op := .load _ (.tmp 5), .. }) (v := ?_) rfl (Or.inl ⟨by rfl, ?_⟩) ?_
 rotate_left 1
 ·intro v hSv
  have hv1 := LC.out v hSv
  clear hSv
  go_simp
  try with_reducible rfl
 try simp only [Act.put, x_A, x_0, x_1]
 refine x_t (i := 29) (oi := { dst := some 60, op := .move (.tmp 3), .. }) (v := ?_) rfl (Or.inl ⟨by rfl, ?_⟩) ?_
 rotate_left 1
 ·intro v hSv
  clear hSv
  go_simp
  try with_reducible rfl
 try simp only [Act.put, x_A, x_0, x_1]
 refine wpAnyH_ready (rs := [30]) (by kernel_rfl) (by simp) ?_
 refine AllReadyH.cons (o := { dst := some 61, op := .call _, .. }) rfl (fun K hK => ?_) AllReadyH.nil
 go_simp
 refine (HK3.out _ 2 (by decide) (by assumption) HF2.out).mono ?_
 rintro e y3 ⟨rfl, hh, hb⟩
 have hb3 : Keep (fun i => i = b) w5 y3 := (hb2).trans hb
 have HF3 := Lib.hid hh
 clear hh
 clear hb
 go_wp2_with fail
 refine hK.out _ _ (hb3) (fun hHeld => ?_)
 clear hK K
 try simp only [Act.put, x_A, x_0, x_1]
 refine x_t (i := 31) (oi := { dst := some 62, op := .binOp .eql _ (.tmp 61) (.const (.int .i64 0)) _, .. }) (v := ?_) rfl (Or.inl ⟨by rfl, ?_⟩) ?_
 rotate_left 1
 ·intro v hSv
  clear hSv
  go_simp
  try with_reducible rfl
 try simp only [Act.put, x_A, x_0, x_1]
 refine x_t (i := 32) (oi := { dst := some 63, op := .pick (.tmp 56) (.tmp 62) (.const (.bool false)), .. }) (v := ?_) rfl (Or.inl ⟨by rfl, ?_⟩) ?_
 rotate_left 1
 ·intro v hSv
  clear hSv
  go_simp
  try with_reducible rfl
 try simp only [Act.put, x_A, x_0, x_1]
 refine x_t (i := 33) (oi := { dst := some 64, op := .move (.tmp 63), .. }) (v := ?_) rfl (Or.inl ⟨by rfl, ?_⟩) ?_
 rotate_left 1
 ·intro v hSv
  clear hSv
  go_simp
  try with_reducible rfl
 try simp only [Act.put, x_A, x_0, x_1]
 refine x_t (i := 34) (oi := { dst := some 65, op := .move (.tmp 1), .. }) (v := ?_) rfl (Or.inl ⟨by rfl, ?_⟩) ?_
 rotate_left 1
 ·intro v hSv
  clear hSv
  go_simp
  try with_reducible rfl
 try simp only [Act.put, x_A, x_0, x_1]
 refine x_t (i := 35) (oi := { dst := some 66, op := .slice _ (.tmp 2) none none none, .. }) (v := ?_) rfl (Or.inl ⟨by rfl, ?_⟩) ?_
 rotate_left 1
 ·intro v hSv
  clear hSv
  go_simp
  try with_reducible rfl
 try simp only [Act.put, x_A, x_0, x_1]
 refine x_t (i := 36) (oi := { dst := some 67, op := .load _ (.tmp 5), .. }) (v := ?_) rfl (Or.inl ⟨by rfl, ?_⟩) ?_
 rotate_left 1
 ·intro v hSv
  have hv1 := LC.out v hSv
  clear hSv
  go_simp
  try with_reducible rfl
 try simp only [Act.put, x_A, x_0, x_1]
 refine x_t (i := 37) (oi := { dst := some 68, op := .move (.tmp 3), .. }) (v := ?_) rfl (Or.inl ⟨by rfl, ?_⟩) ?_
 rotate_left 1
 ·intro v hSv
  clear hSv
  go_simp
  try with_reducible rfl
 try simp only [Act.put, x_A, x_0, x_1]
 refine wpAnyH_ready (rs := [38]) (by kernel_rfl) (by simp) ?_
 refine AllReadyH.cons (o := { dst := some 69, op := .call _, .. }) rfl (fun K hK => ?_) AllReadyH.nil
 go_simp
 refine (HK4.out _ 3 (by decide) (by assumption) HF3.out).mono ?_
 rintro e y4 ⟨rfl, hh, hb⟩
 have hb4 : Keep (fun i => i = b) w5 y4 := (hb3).trans hb
 have HF4 := Lib.hid hh
 clear hh
 clear hb
 go_wp2_with fail
 refine hK.out _ _ (hb4) (fun hHeld => ?_)
 clear hK K
 try simp only [Act.put, x_A, x_0, x_1]
 refine x_t (i := 39) (oi := { dst := some 70, op := .binOp .eql _ (.tmp 69) (.const .nilIface) _, .. }) (v := ?_) rfl (Or.inl ⟨by rfl, ?_⟩) ?_
 rotate_left 1
 ·intro v hSv
  clear hSv
  go_simp
  try with_reducible rfl
 try simp only [Act.put, x_A, x_0, x_1]
 refine x_t (i := 40) (oi := { dst := some 71, op := .pick (.tmp 64) (.tmp 70) (.const (.bool false)), .. }) (v := ?_) rfl (Or.inl ⟨by rfl, ?_⟩) ?_
 rotate_left 1
 ·intro v hSv
  clear hSv
  go_simp
  try with_reducible rfl
 try simp only [Act.put, x_A, x_0, x_1]
 refine x_t (i := 41) (oi := { dst := some 72, op := .move (.tmp 71), .. }) (v := ?_) rfl (Or.inl ⟨by rfl, ?_⟩) ?_
 rotate_left 1
 ·intro v hSv
  clear hSv
  go_simp
  try with_reducible rfl
 try simp only [Act.put, x_A, x_0, x_1]
 refine x_t (i := 42) (oi := { dst := some 73, op := .build _ #[], .. }) (v := ?_) rfl (Or.inl ⟨by rfl, ?_⟩) ?_
 rotate_left 1
 ·intro v hSv
  clear hSv
  go_simp
  try with_reducible rfl
 try simp only [Act.put, x_A, x_0, x_1]
 refine wpAnyH_ready (rs := [43]) (by kernel_rfl) (by simp) ?_
 refine AllReadyH.cons (o := { dst := some 74, op := .call _, .. }) rfl (fun K hK => ?_) AllReadyH.nil
 go_simp
 refine (HK5.out _ (by assumption)).mono ?_
 rintro e y5 ⟨rfl, hb⟩
 have hb5 : Keep (fun i => i = b) w5 y5 := (hb4).trans (Keep.of_below hb)
 have HF5 := Lib.hid (HF4.out.below hb)
 clear hb
 go_wp2_with fail
 refine hK.out _ _ (hb5) (fun hHeld => ?_)
 clear hK K
 try simp only [Act.put, x_A, x_0, x_1]
 refine x_t (i := 44) (oi := { dst := some 75, op := .binOp .eql _ (.tmp 74) (.const (.int .i64 2)) _, .. }) (v := ?_) rfl (Or.inl ⟨by rfl, ?_⟩) ?_
 rotate_left 1
 ·intro v hSv
  clear hSv
  go_simp
  try with_reducible rfl
 try simp only [Act.put, x_A, x_0, x_1]
 refine x_t (i := 45) (oi := { dst := some 76, op := .pick (.tmp 72) (.tmp 75) (.const (.bool false)), .. }) (v := ?_) rfl (Or.inl ⟨by rfl, ?_⟩) ?_
 rotate_left 1
 ·intro v hSv
  clear hSv
  go_simp
  try with_reducible rfl
 try simp only [Act.put, x_A, x_0, x_1]
 refine x_t (i := 46) (oi := { dst := some 77, op := .move (.tmp 76), .. }) (v := ?_) rfl (Or.inl ⟨by rfl, ?_⟩) ?_
 rotate_left 1
 ·intro v hSv
  clear hSv
  go_simp
  try with_reducible rfl
 try simp only [Act.put, x_A, x_0, x_1]
 refine x_t (i := 47) (oi := { dst := some 78, op := .move (.tmp 1), .. }) (v := ?_) rfl (Or.inl ⟨by rfl, ?_⟩) ?_
 rotate_left 1
 ·intro v hSv
  clear hSv
  go_simp
  try with_reducible rfl
 try simp only [Act.put, x_A, x_0, x_1]
 refine x_t (i := 48) (oi := { dst := some 79, op := .load _ (.tmp 2), .. }) (v := ?_) rfl (Or.inl ⟨by rfl, ?_⟩) ?_
 rotate_left 1
 ·intro v hSv
  have hv1 := LE.out v hSv
  clear hSv
  go_simp
  try with_reducible rfl
 try simp only [Act.put, x_A, x_0, x_1]
 refine x_t (i := 49) (oi := { dst := some 80, op := .load _ (.tmp 5), .. }) (v := ?_) rfl (Or.inl ⟨by rfl, ?_⟩) ?_
 rotate_left 1
 ·intro v hSv
  have hv1 := LC.out v hSv
  clear hSv
  go_simp
  try with_reducible rfl
 try simp only [Act.put, x_A, x_0, x_1]
 refine x_t (i := 50) (oi := { dst := some 81, op := .build _ #[], .. }) (v := ?_) rfl (Or.inl ⟨by rfl, ?_⟩) ?_
 rotate_left 1
 ·intro v hSv
  clear hSv
  go_simp
  try with_reducible rfl
 try simp only [Act.put, x_A, x_0, x_1]
 refine wpAnyH_ready (rs := [51]) (by kernel_rfl) (by simp) ?_
 refine AllReadyH.cons (o := { dst := some 82, op := .call _, .. }) rfl (fun K hK => ?_) AllReadyH.nil
 go_simp
 refine (HK6.out _ 5 (by decide) (by assumption) HF5.out).mono ?_
 rintro e y6 ⟨rfl, hh, hb⟩
 have hb6 : Keep (fun i => i = b) w5 y6 := (hb5).trans hb
 have HF6 := Lib.hid hh
 clear hh
 clear hb
 go_wp2_with fail
 refine hK.out _ _ (hb6) (fun hHeld => ?_)
 clear hK K
 try simp only [Act.put, x_A, x_0, x_1]
 refine x_t (i := 52) (oi := { dst := some 83, op := .pick (.tmp 77) (.tmp 82) (.const (.bool false)), .. }) (v := ?_) rfl (Or.inl ⟨by rfl, ?_⟩) ?_
 rotate_left 1
 ·intro v hSv
  clear hSv
  go_simp
  try with_reducible rfl
 try simp only [Act.put, x_A, x_0, x_1]
 refine x_t (i := 53) (oi := { dst := some 84, op := .move (.tmp 83), .. }) (v := ?_) rfl (Or.inl ⟨by rfl, ?_⟩) ?_
 rotate_left 1
 ·intro v hSv
  clear hSv
  go_simp
  try with_reducible rfl
 try simp only [Act.put, x_A, x_0, x_1]
 refine x_t (i := 54) (oi := { dst := some 85, op := .move (.tmp 1), .. }) (v := ?_) rfl (Or.inl ⟨by rfl, ?_⟩) ?_
 rotate_left 1
 ·intro v hSv
  clear hSv
  go_simp
  try with_reducible rfl
 try simp only [Act.put, x_A, x_0, x_1]
 refine x_t (i := 55) (oi := { dst := some 86, op := .build _ #[], .. }) (v := ?_) rfl (Or.inl ⟨by rfl, ?_⟩) ?_
 rotate_left 1
 ·intro v hSv
  clear hSv
  go_simp
  try with_reducible rfl
 try simp only [Act.put, x_A, x_0, x_1]
 refine x_t (i := 56) (oi := { dst := some 87, op := .load _ (.tmp 5), .. }) (v := ?_) rfl (Or.inl ⟨by rfl, ?_⟩) ?_
 rotate_left 1
 ·intro v hSv
  have hv1 := LC.out v hSv
  clear hSv
  go_simp
  try with_reducible rfl
 try simp only [Act.put, x_A, x_0, x_1]
 refine x_t (i := 57) (oi := { dst := some 88, op := .build _ #[], .. }) (v := ?_) rfl (Or.inl ⟨by rfl, ?_⟩) ?_
 rotate_left 1
 ·intro v hSv
  clear hSv
  go_simp
  try with_reducible rfl
 try simp only [Act.put, x_A, x_0, x_1]
 refine wpAnyH_ready (rs := [58]) (by kernel_rfl) (by simp) ?_
 refine AllReadyH.cons (o := { dst := some 89, op := .call _, .. }) rfl (fun K hK => ?_) AllReadyH.nil
 go_simp
 refine (HK7.out _ 6 (by decide) (by assumption) HF6.out).mono ?_
 rintro e y7 ⟨rfl, hh, hb⟩
 have hb7 : Keep (fun i => i = b) w5 y7 := (hb6).trans hb
 have HF7 := Lib.hid hh
 clear hh
 clear hb
 go_wp2_with fail
 refine hK.out _ _ (hb7) (fun hHeld => ?_)
 clear hK K
 try simp only [Act.put, x_A, x_0, x_1]
 refine x_t (i := 59) (oi := { dst := some 90, op := .unOp .not _ (.tmp 89), .. }) (v := ?_) rfl (Or.inl ⟨by rfl, ?_⟩) ?_
 rotate_left 1
 ·intro v hSv
  clear hSv
  go_simp
  try with_reducible rfl
 try simp only [Act.put, x_A, x_0, x_1]
 refine x_t (i := 60) (oi := { dst := some 91, op := .pick (.tmp 84) (.tmp 90) (.const (.bool false)), .. }) (v := ?_) rfl (Or.inl ⟨by rfl, ?_⟩) ?_
 rotate_left 1
 ·intro v hSv
  clear hSv
  go_simp
  try with_reducible rfl
 try simp only [Act.put, x_A, x_0, x_1]
 refine x_t (i := 61) (oi := { dst := some 0, op := .assign (.tmp 91), .. }) (v := ?_) rfl (Or.inl ⟨by rfl, ?_⟩) ?_
 rotate_left 1
 ·intro v hSv
  clear hSv
  go_simp
  try with_reducible rfl
 try simp only [Act.put, x_A, x_0, x_1]
 refine wpAnyH_done (by kernel_rfl) ?_ _
 go_wp2_with fail
 go_ret
 exact ⟨rfl, HBX.out _ (hb7)⟩
end Go.Proofs.YtjgdindjimbfeaaGreatDoor
