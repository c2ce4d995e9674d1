/- The program's Prove (by program: gen-tpl15-pprove2.py). -/
import Derived.Test.YtbkokcfmndiedaaGreatDoorAY
import Derived.Test.YtbkokcfmndiedaaGreatDoorMR
namespace Go.Proofs.YtbkokcfmndiedaaGreatDoor
open Go.RowKit

set_option linter.unusedSimpArgs false in
set_option maxHeartbeats 16000000 in
set_option maxRecDepth 100000 in
theorem pprove_c {M : World → Int → Tv → Prop} (nd : NdV M) (fv : FnV M) (w : World) (b : Nat) (n : Int) (c : Nat) (l : List Ent) (T : Tv) (k : List UInt8) (hH : Hs w b n c) (hc : c ≤ 500000) (hv : Vars w) (hM : M w n T) (hI : IsMap l T) (hk : k.length = 32) :
    Calls Tryz.prog 9 #[ptr b, T.val, .agg (bA k)] w fun e w' => ∃ A cp c', e = .returned (.agg (pfC (prK n l k (T.dep k 0)) (.slice A (prK n l k (T.dep k 0)).sib.length cp))) ∧ NewD w' w.heap.size A cp (prK n l k (T.dep k 0)).sib ∧ c' ≤ c + 1000 ∧ Hs w' b n c' ∧ Keep (fun i => i = b) w w' := by
  obtain ⟨X, hX⟩ : ∃ X, X = (w.alloc (.cells (bA k) 24)).alloc (.cells (pfC zPf (.slice none 0 0)) 36) := ⟨_, rfl⟩
  have hB : Below w.heap.size w X := by rw [hX]; exact Bt.two_below _ _ _
  have HR0 : Hid (RowB X w.heap.size 24 k) := by show RowB _ _ _ _; rw [hX]; exact heap_alloc2_old w _ _
  have HRX : Hid (PfAt X (w.heap.size + 1) zPf (.slice none 0 0)) := by show PfAt _ _ _ _; rw [hX]; exact heap_alloc2_new w _ _
  have HL1 := Lib.hid (fv.locate X n l T k (nd.below hM hB) hI hk)
  have lk := HR0.out.ldKey hk
  rw [hX] at lk
  have HX := Lib.hid hX
  have HB := Lib.hid hB
  have HKK := Lib.hid hk
  have HHW0 := Lib.hid hH
  have HC0 := Lib.hid hc
  have HV0 := Lib.hid hv
  have HM := Lib.hid hM
  have HI := Lib.hid hI
  have HBL : Hid (b < w.heap.size) := lt_of_heap hH
  obtain ⟨D, hD⟩ : ∃ D, D = T.dep k 0 := ⟨_, rfl⟩
  have HDD := Lib.hid hD
  have HD2 : Hid (D ≤ 256) := by show D ≤ 256; rw [hD]; exact dep_le hI.sep (hI.at k)
  obtain ⟨hkd, hlv⟩ := fin_both hI.sep (hI.at k) n
  rw [← hD] at hkd hlv HL1
  have HLL : Hid ((leafO n (dK l k D)).length = 64) := leafO_len fun e he => hI.sep.len e (dK_mem.1 he).1
  have HKD0 := Lib.hid hkd
  have HLV0 := Lib.hid hlv
  clear hH hc hv hM hI hk hX hB hD hkd hlv
  go_enter Tryz.func9, Tryz.ntmps9
  go_wp2_with fail
  rw [← HX.out]
  clear HX lk
  refine HL1.out.mono ?_
  rintro _ w1 ⟨rfl, hb1⟩
  have HBW1 : Hid (Below w.heap.size w w1) := HB.out.trans (hb1.mono HB.out.size)
  have HMW : Hid (M w1 n (T.fin k 0)) := ms_fin nd k (d := 0) (nd.below HM.out HBW1.out)
  have HKD := nd.kind w1 n (T.fin k 0) HMW.out
  rw [HKD0.out] at HKD
  have HKD := Lib.hid HKD
  have HXW1 := Lib.hid hb1
  clear hb1 HL1
  go_wp2_with fail
  refine HKD.out.mono ?_
  rintro _ w2 ⟨rfl, hb2⟩
  have HXW2 : Hid (Below X.heap.size X w2) := HXW1.out.trans (hb2.mono HXW1.out.size)
  have HLF := nd.leafOf w2 n (T.fin k 0) (nd.below HMW.out hb2)
  rw [HLV0.out] at HLF
  have HLF := Lib.hid HLF
  clear hb2 HKD HXW1
  go_wp2_with fail
  refine HLF.out.mono ?_
  rintro _ w3 ⟨rfl, hb3⟩
  have HXW3 : Hid (Below X.heap.size X w3) := HXW2.out.trans (hb3.mono HXW2.out.size)
  have HGX : Hid (X.heap.size ≤ w3.heap.size) := HXW3.out.size
  have HGW : Hid (w.heap.size ≤ w3.heap.size) := Nat.le_trans HB.out.size HGX.out
  have HNE : Hid (b ≠ w3.heap.size) := fun e => by have := HBL.out; have := HGW.out; omega
  obtain ⟨kd, hkd⟩ : ∃ kd, kd = kindO (dK l k D) := ⟨_, rfl⟩
  obtain ⟨lf, hlf⟩ : ∃ lf, lf = leafO n (dK l k D) := ⟨_, rfl⟩
  have hlf64 : lf.length = 64 := by rw [hlf]; exact HLL.out
  have bd := fun w' => bldPf_kdl kd (D : Int) lf hlf64 w'
  have st2 := stPf_new w3 (p := ⟨kd, (D : Int), lf, z26, []⟩) (z := zPf) ⟨hlf64, rfl, fun s h => by simp at h⟩ zPf_ok none 0 0 (.slice none 0 0)
  obtain ⟨U, hU⟩ : ∃ U, U = w3.alloc (.cells (pfC ⟨kd, (D : Int), lf, z26, []⟩ (.slice none 0 0)) 36) := ⟨_, rfl⟩
  have hPU : PfAt U w3.heap.size ⟨kindO (dK l k D), D, leafO n (dK l k D), bmL (Bt.ofK (depS l k 0)), []⟩ (.slice none 0 0) := by
    rw [hU, hkd, hlf, show bmL (Bt.ofK (depS l k 0)) = z26 from bmL_zero]
    exact PfAt.one _ _ _
  have hXU : Below X.heap.size X U := by rw [hU]; exact HXW3.out.trans ((Bt.one_below _ _).mono HXW3.out.size)
  rw [← hkd, ← hlf]
  have lk := (HR0.out.below hXU).ldKey HKK.out
  have HSB := Lib.hid (fv.siblings U n l T k (nd.below HM.out (HB.out.trans (hXU.mono HB.out.size))) HI.out HKK.out)
  have HPU := Lib.hid hPU
  have HXU := Lib.hid hXU
  rw [hU] at lk
  have HU := Lib.hid hU
  clear hb3 HLF hkd hlf hlf64 hPU hXU hU
  go_wp2_with fail
  rw [← HU.out]
  clear bd st2 lk HU
  refine HSB.out.mono ?_
  rintro _ V ⟨A4, c4, rfl, hPA, hbV⟩
  obtain ⟨S, hS⟩ : ∃ S, S = T.sibs k 0 := ⟨_, rfl⟩
  have HSD : Hid (S.length = D) := by
    have := sibs_len k T 0
    show S.length = D
    rw [hS, HDD.out]; omega
  have HSS0 := Lib.hid hS
  rw [← hS] at hPA ⊢
  rw [HSD.out]
  have hPV : PfAt V w3.heap.size ⟨kindO (dK l k D), D, leafO n (dK l k D), bmL (Bt.ofK (depS l k 0)), []⟩ (.slice none 0 0) := HPU.out.below hbV HPU.out.lt
  have hXV : Below X.heap.size X V := HXU.out.trans (hbV.mono HXU.out.size)
  have HGV : Hid (w3.heap.size < V.heap.size) := hPV.lt
  have HVX := Lib.hid hXV
  have HP1 := Lib.hid hPV
  have HPA := Lib.hid hPA
  have HBWV : Hid (Below w.heap.size w V) := HB.out.trans (hXV.mono HB.out.size)
  have HBV : Hid (b < V.heap.size) := Nat.lt_of_lt_of_le HBL.out HBWV.out.size
  have hHV : Hs V b n c := HHW0.out.keep (Keep.of_below (L := fun _ => False) HBWV.out) id
  have HHV := Lib.hid hHV
  have HGB : Hid (¬ (w3.heap.size = b ∨ V.heap.size ≤ w3.heap.size)) := fun h => h.elim (fun e => HNE.out e.symm) fun e => by have := HGV.out; omega
  have HPM : Hid (∀ ds : List Int, Pf.Ok ⟨kindO (dK l k D), D, leafO n (dK l k D), bmL (Bt.ofK ds), []⟩) := fun ds => ⟨HLL.out, bmL_len _, fun s h => by simp at h⟩
  clear hPV hXV hPA hS hbV HSB hHV
  go_wp2_with fail
  go_loopg [10, 11, 28] D (fun g2 _ _ j wr => ∃ (m : Nat) (As : Option Addr) (cs c' : Nat), j = .int .i64 (m : Int) ∧ m ≤ D ∧ D - m ≤ g2 ∧ PfAt wr w3.heap.size ⟨kindO (dK l k D), D, leafO n (dK l k D), bmL (Bt.ofK (depS l k m)), []⟩ (.slice As (sibS n l k m).length cs) ∧ OwnD wr V.heap.size (.slice As (sibS n l k m).length cs) (sibS n l k m) ∧ Hs wr b n c' ∧ c' ≤ c + m ∧ Keep (fun i => i = b ∨ i = w3.heap.size) V wr)
  case atStart => exact ⟨0, none, 0, c, rfl, by omega, by omega, HP1.out, OwnD.nil _ _, HHV.out, Nat.le_refl _, Keep.refl _ _⟩
  case round =>
    obtain ⟨m, As, cs, c', rfl, hm, hg2, hP, hS, hH, hcm, hK⟩ := hrel
    have HVR : Hid (V.heap.size ≤ wr.heap.size) := hK.size
    have HKR := Lib.hid hK
    have HPR := Lib.hid hP
    have HS2 := Lib.hid hS
    have HHR := Lib.hid hH
    have HCM := Lib.hid hcm
    have HKW0 : Hid (Keep (fun i => i = b) w wr) := keep_low HBWV.out hK HGW.out
    by_cases hlt : m < D
    · have hd : decide (m < D) = true := decide_eq_true hlt
      have hd' : decide ((m : Int) < (D : Int)) = true := decide_eq_true (by omega)
      have h256 : m < 256 := by have := HD2.out; omega
      obtain ⟨x, hx⟩ : ∃ x, S[m]? = some x := ⟨_, List.getElem?_eq_getElem (by rw [HSD.out]; exact hlt)⟩
      have hxs : (T.sibs k 0)[m]? = some x := by rw [← HSS0.out]; exact hx
      have hsb := sib_both HI.out.sep (HI.out.at k) hxs n
      have hse := sib_empty HI.out.sep (HI.out.at k) hxs
      have HMX : Hid (∀ {w : World}, M w n T → M w n x) := fun h => ms_sibs nd k T 0 h x (List.mem_of_getElem? hxs)
      have hPAr : PA wr A4 S := PA.two HHV.out HP1.out HPA.out (fun y hy => by rw [HSS0.out] at hy; exact val_ptr nd (ms_sibs nd k T 0 (nd.below HM.out HBWV.out) y hy)) hK
      obtain ⟨gp, op, rfl, hcell⟩ := hPAr m x hx
      have p0 : (0 : Int) ≤ (m : Int) := by omega
      have p1 : (m : Int) < (D : Int) := by omega
      have hw9 : IntKind.i64.wrap ((m : Int) + 1) = (m : Int) + 1 := Bt.wrap_inr (by omega) (by omega)
      have HMR : Hid (M wr n x) := HMX.out (nd.hs HM.out HHW0.out HKW0.out)
      clear hP hS hH hcm hK hx hxs hPAr
      by_cases hnil : x = .nil
      · have hsk := hse.1 hnil
        have HDS := Lib.hid (depS_no hsk)
        have HSS := Lib.hid (sibS_no (n := n) hsk)
        rw [show x.val = .pointer none from by rw [hnil]; rfl] at hcell
        have HKX := nd.kind wr n x HMR.out
        rw [show x.val = .pointer none from by rw [hnil]; rfl, show kindT x.tr = 0 from by rw [hnil]; rfl] at HKX
        have HKX := Lib.hid HKX
        clear hnil hsk hsb hse
        go_wp2_with fail
        refine HKX.out.mono ?_
        rintro _ w5 ⟨rfl, hb5⟩
        have HB5 := Lib.hid hb5
        clear hb5 HKX hcell
        go_wp2_with fail
        go_roundg (D - (m + 1))
        case measure => omega
        case rel =>
          refine ⟨m + 1, As, cs, c', by go_num, by omega, by omega, ?_, ?_, HHR.out.keep (Keep.of_below (L := fun _ => False) HB5.out) id, by have := HCM.out; omega, HKR.out.trans (Keep.of_below HB5.out)⟩
          · rw [HDS.out, HSS.out]; exact HPR.out.below HB5.out HPR.out.lt
          · rw [HSS.out]; exact HS2.out.below HB5.out
      · have hsk : sibK l k m ≠ [] := fun h => hnil (hse.2 h)
        have HDS := Lib.hid (depS_yes hsk)
        obtain ⟨ax, hax⟩ : ∃ ax, x.val = .pointer (some ax) := (nd.addr HMR.out).resolve_left hnil
        obtain ⟨rt, hrt⟩ : ∃ rt, rt = rootK (256 - m) n (sibK l k m) ((m : Int) + 1) := ⟨_, rfl⟩
        have HRX2 : Hid (digT n x.tr = rt) := by show _ = _; rw [hrt]; exact hsb.2.2
        have HSS : Hid (sibS n l k (m + 1) = sibS n l k m ++ [rt]) := by show _ = _; rw [hrt]; exact sibS_yes hsk
        have HRL : Hid (rt.length = 32) := by show _ = _; rw [hrt]; exact rootK_len _ _ _ _
        have HMM : Hid (∀ s ∈ sibS n l k m ++ [rt], s.length = 32) := fun s hs => by
          rcases List.mem_append.1 hs with h | h
          · exact sibS_mem h
          · rw [List.mem_singleton.1 h]; exact HRL.out
        have hdl := depS_le l k m
        have HSL : Hid ((sibS n l k m).length ≤ 1000000) := by show _ ≤ _; rw [← depS_len]; omega
        have HAX := Lib.hid hax
        obtain ⟨kx, hkx⟩ : ∃ kx, kx = kindT x.tr := ⟨_, rfl⟩
        have kz : (kx == 0) = false := by rw [hkx]; exact kind_two hnil
        have HKX := nd.kind wr n x HMR.out
        rw [hax, ← hkx] at HKX
        have HKX := Lib.hid HKX
        rw [hax] at hcell
        clear hnil hsk hsb hse hrt hax hkx hdl
        go_wp2_with fail
        refine HKX.out.mono ?_
        rintro _ w5 ⟨rfl, hb5⟩
        have HB5 := Lib.hid hb5
        have HP5 := Lib.hid (HPR.out.below hb5 HPR.out.lt)
        have c3 := HP5.out.bm (HPM.out _)
        have c3' := HP5.out.bmA (HPM.out _)
        have HWI := Lib.hid (withB_c (depS l k m) (m : Int) w5)
        clear hb5 HKX hcell
        go_wp2_with fail
        refine HWI.out.mono ?_
        rintro _ w6 ⟨rfl, hb6⟩
        have HB6 : Hid (Below wr.heap.size wr w6) := HB5.out.trans (hb6.mono HB5.out.size)
        have HP6 := Lib.hid (HP5.out.below hb6 HP5.out.lt)
        obtain ⟨st, hPY⟩ := HP6.out.stBm (HPM.out _) (bmL (Bt.ofK (depS l k m ++ [(m : Int)]))) (bmL_len _)
        have st' : Bt.stAr w6 (.pointer (some ⟨w3.heap.size, 66, none⟩)) (.agg (bA (bmL (Bt.ofK (depS l k m ++ [(m : Int)]))))) = .ok .skip (w6.setCells w3.heap.size 66 ((bmL (Bt.ofK (depS l k m ++ [(m : Int)]))).map bv)) := st
        obtain ⟨Y1, hY1⟩ : ∃ Y, Y = w6.setCells w3.heap.size 66 ((bmL (Bt.ofK (depS l k m ++ [(m : Int)]))).map bv) := ⟨_, rfl⟩
        rw [← hY1] at st st' hPY
        have HPY : Hid (PfAt Y1 w3.heap.size ⟨kindO (dK l k D), D, leafO n (dK l k D), bmL (Bt.ofK (depS l k m ++ [(m : Int)])), []⟩ (.slice As (sibS n l k m).length cs)) := hPY
        have hkY : Keep (fun i => i = w3.heap.size) w6 Y1 := by rw [hY1]; exact keep_set15 _ _ _ _
        have HS3 : Hid (OwnD Y1 V.heap.size (.slice As (sibS n l k m).length cs) (sibS n l k m)) := row11_keep (HS2.out.below HB6.out) hkY fun g h e => by have h1 := HS2.out.ge g h; have h2 : g = w3.heap.size := e; have := HGV.out; omega
        have HHY : Hid (Hs Y1 b n c') := (HHR.out.keep (Keep.of_below (L := fun _ => False) HB6.out) id).keep hkY fun e => HNE.out e
        have HKVY : Hid (Keep (fun i => i = b ∨ i = w3.heap.size) V Y1) := (HKR.out.trans (Keep.of_below HB6.out)).trans (hkY.mono fun i e => .inr e)
        have HKY : Hid (Keep (fun i => i = b) w Y1) := keep_low HBWV.out HKVY.out HGW.out
        have HVY : Hid (V.heap.size ≤ Y1.heap.size) := HKVY.out.size
        have HP1O := Lib.hid (HPM.out (depS l k m ++ [(m : Int)]))
        have LB : Hid (∀ q, Keep (fun i => i = b ∨ V.heap.size ≤ i) Y1 q → q.cell? ⟨w3.heap.size, 98, none⟩ = some (.slice As (sibS n l k m).length cs)) := fun q h => (HPY.out.keep h HGB.out).sib HP1O.out
        have HRC : Hid (∀ q, Below Y1.heap.size Y1 q → Calls Tryz.prog 32 #[ptr b, .pointer (some ax)] q fun e w' => ∃ c2, e = .returned (.agg (bA rt)) ∧ c2 ≤ c' + 1 ∧ Hs w' b n c2 ∧ Keep (fun i => i = b) q w') := fun q h => by
          have hq : Hs q b n c' := HHY.out.keep (Keep.of_below (L := fun _ => False) h) id
          have := nd.digest q b n c' x hq (by have := HCM.out; have := HC0.out; have := HD2.out; omega) ((HV0.out.hs HHW0.out HKY.out).below h) (nd.below (HMX.out (nd.hs HM.out HHW0.out HKY.out)) h)
          rw [HAX.out, HRX2.out] at this
          exact this.mono fun e w' ⟨c2, h1, h2, _, h4, h5⟩ => ⟨c2, h1, h2, h4, h5⟩
        have bsx := bsD_one rt HRL.out
        have HY1 := Lib.hid hY1
        clear hPY hkY hY1 hb6 HWI
        go_wp2_with fail
        clear c3 c3' st st'
        refine region_heldT 8 (fun q => Keep (fun i => i = b ∨ V.heap.size ≤ i) Y1 q) (by kernel_rfl) ?_
        have hHeld : Keep (fun i => i = b ∨ V.heap.size ≤ i) Y1 Y1.drew := (Keep.refl _ _).drew
        refine HeldT.take (i := 0) (oi := { dst := some 41, op := .fieldAddr _ (.tmp 9) 4, type := _, pos := _, after := _, guard := _ }) (v := ?_) rfl (by kernel_rfl) (by kernel_rfl) (by kernel_rfl) (by kernel_rfl) (fun _ _ _ h => h) (Or.inl ⟨by rfl, ?_⟩) (by assumption) ?_
        rotate_left 1
        · intro v hSv
          clear hSv
          go_simp
          try with_reducible rfl
        try simp only [Act.put, List.setIfInBounds_toArray, List.set_cons_zero, List.set_cons_succ]
        refine HeldT.take (i := 1) (oi := { dst := some 42, op := .load _ (.tmp 41), type := _, pos := _, after := _, guard := _ }) (v := ?_) rfl (by kernel_rfl) (by kernel_rfl) (by kernel_rfl) (by kernel_rfl) (fun _ _ _ h => h) (Or.inl ⟨by rfl, ?_⟩) (by assumption) ?_
        rotate_left 1
        · intro v hSv
          have hv1 := LB.out v hSv
          clear hSv
          go_simp
          try with_reducible rfl
        try simp only [Act.put, List.setIfInBounds_toArray, List.set_cons_zero, List.set_cons_succ]
        refine HeldT.take (i := 2) (oi := { dst := some 43, op := .move (.tmp 0), type := _, pos := _, after := _, guard := _ }) (v := ?_) rfl (by kernel_rfl) (by kernel_rfl) (by kernel_rfl) (by kernel_rfl) (fun _ _ _ h => h) (Or.inl ⟨by rfl, ?_⟩) (by assumption) ?_
        rotate_left 1
        · intro v hSv
          clear hSv
          go_simp
          try with_reducible rfl
        try simp only [Act.put, List.setIfInBounds_toArray, List.set_cons_zero, List.set_cons_succ]
        refine HeldT.take (i := 3) (oi := { dst := some 44, op := .move (.tmp 11), type := _, pos := _, after := _, guard := _ }) (v := ?_) rfl (by kernel_rfl) (by kernel_rfl) (by kernel_rfl) (by kernel_rfl) (fun _ _ _ h => h) (Or.inl ⟨by rfl, ?_⟩) (by assumption) ?_
        rotate_left 1
        · intro v hSv
          clear hSv
          go_simp
          try with_reducible rfl
        try simp only [Act.put, List.setIfInBounds_toArray, List.set_cons_zero, List.set_cons_succ]
        refine HeldT.one (i := 4) (o := { dst := some 45, op := .call _, type := _, pos := _, after := _, guard := _ }) (by kernel_rfl) rfl rfl (fun K hK => ?_)
        go_wp2_with fail
        refine (HRC.out _ ((Below.refl _ _).drew)).mono ?_
        rintro e y1 ⟨m4, rfl, hc4, hH4, hk4⟩
        have hq1 : Keep (fun i => i = b) Y1 y1 := ((Keep.refl _ _).drew).trans hk4
        have HQ1 := Lib.hid hq1
        have HC4 := Lib.hid hc4
        have HH4 := Lib.hid hH4
        clear hk4 hc4 hH4
        go_wp2_with fail
        refine hK.out _ _ (fun _ => hq1.mono fun i h => .inl h) (fun hS => ?_)
        have hHeld := hS (by decide)
        clear hS hK K
        try simp only [Act.put, List.setIfInBounds_toArray, List.set_cons_zero, List.set_cons_succ]
        clear hq1
        refine HeldT.one (i := 5) (o := { dst := some 46, op := .buildSlice _ _ _, type := _, pos := _, after := _, guard := _ }) (by kernel_rfl) rfl rfl (fun K hK => ?_)
        obtain ⟨Z, hZ⟩ : ∃ Z, Z = y1.alloc (.cells (bA rt) 31) := ⟨_, rfl⟩
        have hq2 : Keep (fun i => i = b) Y1 Z := by rw [hZ]; exact HQ1.out.alloc _
        have HZR : Hid (Z.rangeAt y1.heap.size 0 (dC rt)) := by show World.rangeAt _ _ _ _; rw [hZ]; exact dig_made _ _ _
        have HH5 : Hid (Hs Z b n m4) := by show Hs _ _ _ _; rw [hZ]; exact HH4.out.keep ((Keep.refl (fun _ => False) _).alloc _) id
        have HQ2 := Lib.hid hq2
        have HZ := Lib.hid hZ
        clear hZ HQ1 HH4
        go_wp2_with fail
        rw [← HZ.out]
        refine hK.out _ _ (fun _ => hq2.mono fun i h => .inl h) (fun hS => ?_)
        have hHeld := hS (by decide)
        clear hS hK K
        try simp only [Act.put, List.setIfInBounds_toArray, List.set_cons_zero, List.set_cons_succ]
        clear hq2 HZ
        refine HeldT.one (i := 6) (o := { dst := some 47, op := .call _, type := _, pos := _, after := _, guard := _ }) (by kernel_rfl) rfl rfl (fun K hK => ?_)
        have HOZ : Hid (OwnD Z V.heap.size (.slice As (sibS n l k m).length cs) (sibS n l k m)) := row11_keep HS3.out HQ2.out fun i h e => by have h1 := HS3.out.ge i h; have h2 : i = b := e; have := HBV.out; omega
        have hzs : V.heap.size ≤ Z.heap.size := Nat.le_trans HVY.out HQ2.out.size
        go_wp2_with (at_builtin; refine wpList_pushD rfl _ _ rfl V.heap.size (.slice As (sibS n l k m).length cs) (sibS n l k m) rfl HOZ.out y1.heap.size rt HRL.out rfl HZR.out HSL.out hzs ?_; intro v9 w9 hO9 hG9; obtain ⟨A9, c9, rfl, _, _⟩ := hO9.ds HMM.out)
        have HO9 := Lib.hid hO9
        have HG9 := Lib.hid hG9
        have HH9 : Hid (Hs w9 b n m4) := HH5.out.keep hG9.keep fun e => by have := HOZ.out.ge b e; have := HBV.out; omega
        have HS9 : Hid (Keep (fun i => i = b ∨ V.heap.size ≤ i) Y1 w9) := Keep.step (HQ2.out.mono fun i h => .inl h) hG9.keep fun i h => .inl (.inr (HOZ.out.ge i h))
        refine hK.out _ _ (fun _ => HS9.out) (fun hS => ?_)
        have hHeld := hS (by decide)
        clear hS hK K
        try simp only [Act.put, List.setIfInBounds_toArray, List.set_cons_zero, List.set_cons_succ]
        clear hO9 hG9 hzs HOZ HZR HH5
        refine HeldT.take (i := 7) (oi := { dst := some 48, op := .fieldAddr _ (.tmp 9) 4, type := _, pos := _, after := _, guard := _ }) (v := ?_) rfl (by kernel_rfl) (by kernel_rfl) (by kernel_rfl) (by kernel_rfl) (fun _ _ _ h => h) (Or.inl ⟨by rfl, ?_⟩) (by assumption) ?_
        rotate_left 1
        · intro v hSv
          clear hSv
          go_simp
          try with_reducible rfl
        try simp only [Act.put, List.setIfInBounds_toArray, List.set_cons_zero, List.set_cons_succ]
        refine HeldT.one (i := 8) (o := { dst := none, op := .store _ (.tmp 48) (.tmp 47), type := _, pos := _, after := _, guard := _ }) (by kernel_rfl) rfl rfl (fun K hK => ?_)
        have hP9 : PfAt w9 w3.heap.size ⟨kindO (dK l k D), D, leafO n (dK l k D), bmL (Bt.ofK (depS l k m ++ [(m : Int)])), []⟩ (.slice As (sibS n l k m).length cs) := HPY.out.keep HS9.out HGB.out
        have hcell := hP9.sib HP1O.out
        have hfree : w9.frozen? ⟨w3.heap.size, 98, none⟩ = false := frozen_of_row w9 _ _ _ _ hP9
        obtain ⟨HPW, HOW, HKW⟩ := rp_end3 (s' := .slice A9 (sibS n l k m ++ [rt]).length c9) rfl HGV.out HP1O.out HKVY.out HS9.out HO9.out hP9
        have HHW : Hid (Hs (w9.setCell ⟨w3.heap.size, 98, none⟩ (.slice A9 (sibS n l k m ++ [rt]).length c9)) b n m4) := (HH9.out.keep (Keep.cell w9 ⟨w3.heap.size, 98, none⟩ _) (fun e => HNE.out e))
        clear hP9
        go_wp2_with fail
        refine hK.out _ _ (fun h => absurd rfl h) (fun _ => ?_)
        clear hK K
        refine HeldT.done (by kernel_rfl) ?_ _
        go_wp2
        go_roundg (D - (m + 1))
        case measure => omega
        case rel =>
          have e9 : (sibS n l k m ++ [rt]).length = (sibS n l k m).length + 1 := List.length_append
          rw [e9] at HPW HOW HKW HHW
          refine ⟨m + 1, A9, c9, m4, by go_num, by omega, by omega, ?_, ?_, HHW.out, by have := HC4.out; have := HCM.out; omega, HKW.out⟩
          · rw [HDS.out, HSS.out, e9]; exact HPW.out
          · rw [HSS.out, e9]; exact HOW.out
    · have hd : decide (m < D) = false := decide_eq_false hlt
      have hd' : decide ((m : Int) < (D : Int)) = false := decide_eq_false (by omega)
      obtain rfl : m = D := by omega
      have hdl := depS_le l k m
      have h256 := HD2.out
      have hP7 : PfAt wr w3.heap.size (prK n l k m) (.slice As (prK n l k m).sib.length cs) := hP
      have hqo : (prK n l k m).Ok := prK_ok HI.out.sep k
      have hR6 : PfAt wr (w.heap.size + 1) zPf (.slice none 0 0) := by
        have h1 : PfAt V (w.heap.size + 1) zPf (.slice none 0 0) := HRX.out.below HVX.out HRX.out.lt
        exact h1.keep HKR.out fun e => e.elim (fun e => by have := HBL.out; omega) fun e => by have := HGX.out; have := HRX.out.lt; omega
      have ld6 := hP7.ld hqo
      obtain ⟨E, hE⟩ : ∃ E, E = wr.setRow (w.heap.size + 1) (pfC (prK n l k m) (.slice As (prK n l k m).sib.length cs)) := ⟨_, rfl⟩
      have st6 : stA 36 wr (.pointer (some ⟨w.heap.size + 1, 0, none⟩)) (.agg (pfC (prK n l k m) (.slice As (prK n l k m).sib.length cs))) = .ok .skip E := by rw [hE]; exact stA_row hR6 (by rw [pfC_size hqo]; exact infoPf) (by rw [pfC_size hqo, pfC_size zPf_ok]) (pfC_one _ _ _ _)
      have HROW : Hid (PfAt E (w.heap.size + 1) (prK n l k m) (.slice As (prK n l k m).sib.length cs)) := by show PfAt _ _ _ _; rw [hE]; exact setRow_heap _ _ _ _ _ _ hR6
      have hXW : w.heap.size + 1 < X.heap.size := HRX.out.lt
      have HFN : Hid (∀ j ob, j ≠ w.heap.size + 1 → wr.heap[j]? = some ob → E.heap[j]? = some ob) := fun j ob h2 h3 => by rw [hE, setRow_other _ _ _ _ h2]; exact h3
      have HNF : Hid (NewD E w.heap.size As cs (prK n l k m).sib) := by
        have h2 : OwnD E V.heap.size (.slice As (prK n l k m).sib.length cs) (prK n l k m).sib := row11_other HS2.out fun g cs' hg hh => by
          have hge := HS2.out.ge g hg
          exact HFN.out g _ (by have := HVX.out.size; omega) hh
        obtain ⟨_, _, e, _, hcap⟩ := h2.ds hqo.sib
        cases e
        exact ⟨hcap, .inr (h2.mono HBWV.out.size)⟩
      have HHF : Hid (Hs E b n c') := HFN.out b _ (by have := HBL.out; omega) HHR.out
      have HKF : Hid (Keep (fun i => i = b) w E) := by
        have h3 : Below w.heap.size wr E := by rw [hE]; exact Bt.below_row ((Below.refl _ wr).mono (Nat.le_trans HBWV.out.size HVR.out)) (by omega) _
        exact HKW0.out.step (Keep.ofB h3) fun i hi => .inr hi
      have HQO := Lib.hid hqo
      clear hP hS hH hcm hK hlt hm hg2 hP7 hqo hR6 hE HFN hXW
      go_wp2
      refine bodyPost_ret (v := .agg (pfC (prK n l k m) (.slice As (prK n l k m).sib.length cs))) ?_ rfl ⟨As, cs, c', by rw [← HDD.out], ?_⟩
      · exact results_cell_row Tryz.results9 _ _ (w.heap.size + 1) 36 _ (0, 0) _ rfl HROW.out Tryz.underlying36 rfl (by rw [pfC_size HQO.out]; exact infoPf)
      · rw [← HDD.out]
        exact ⟨HNF.out, by have := HCM.out; have := HD2.out; omega, HHF.out, HKF.out⟩
end Go.Proofs.YtbkokcfmndiedaaGreatDoor
