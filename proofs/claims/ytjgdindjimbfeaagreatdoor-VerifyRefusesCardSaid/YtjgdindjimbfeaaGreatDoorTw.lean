import Derived.Test.YtjgdindjimbfeaaGreatDoorTU
namespace Go.Proofs.YtjgdindjimbfeaaGreatDoor
set_option linter.unusedSimpArgs false
set_option linter.unusedVariables false
set_option maxHeartbeats 16000000
set_option maxRecDepth 100000
open Go.RowKit
theorem get18b (n : Int) {O : List En} (k : List UInt8) {w : World} {A2 : Option Addr} (hA : EA w A2 O) (hv : ∀ e ∈ O, e.v.length ≤ 1000) :
  ∃ B cb vv pr, getVal (getE O k) = .slice B (vv : List UInt8).length cb ∧ (getE O k).isSome = pr ∧ vv.length ≤ cb ∧ vv.length ≤ 1000 ∧ (∀ w', EA w' A2 O → BA w' B vv) ∧ (∀ c : Cl, c.k = k → trueC n (O.map En.ent) c = ((c.pr == pr) && (!pr || decide (digL n (valL vv) = digL n (valL c.v))))) := by
 have hm : (O.map En.ent).find? (fun e => decide (e.k = k)) = (getE O k).map En.ent := by
  rw [List.find?_map]; rfl
 cases hg : getE O k with
 | none =>
  rw [hg] at hm
  refine ⟨none, 0, [], false, rfl, rfl, Nat.le_refl _, by decide, fun w' _ j x hx => by simp at hx, fun c hc => ?_⟩
  unfold trueC
  rw [hc, hm]
  cases c.pr <;> rfl
 | some e =>
  rw [hg] at hm
  have he : e ∈ O := List.mem_of_find?_eq_some hg
  obtain ⟨i, hi⟩ := List.getElem?_of_mem he
  refine ⟨e.A, e.c, e.v, true, rfl, rfl, (hA i e hi).1.cap, hv e he, fun w' h => (h i e hi).1.val, fun c hc => ?_⟩
  unfold trueC
  rw [hc, hm]
  show (c.pr && decide (digL n (valL c.v) = digL n (valL e.v))) = _
  rw [show (decide (digL n (valL c.v) = digL n (valL e.v))) = decide (digL n (valL e.v) = digL n (valL c.v)) from by
   by_cases h : digL n (valL e.v) = digL n (valL c.v)
   ·rw [decide_eq_true h, decide_eq_true h.symm]
   ·rw [decide_eq_false h, decide_eq_false fun h' => h h'.symm]]
  cases c.pr <;> rfl
theorem refuses18_in {M : World → Int → Tv → Prop} (nd : NdV M) (pf : PfV M) (co : CoV) (ve : VeV) (n : Int) (A : Option Addr) (c : Nat) (es : List En) (cl : Cl) (KA VA : Option Addr) (ka va : Nat) (W : World) (hA : EA W A es) (hl : es.length ≤ 12) (hvl : ∀ e ∈ es, e.v.length ≤ 1000) (hf : fewK (es.map En.ent) = true) (hvx : Vars W) (hex : Ft.ErrVar W) (hco : ClOk W cl KA ka VA va) (hcl : (stC cl).2 = 0) (hv3 : cl.v.length ≤ 300) (h0 : 0 ≤ n) (h1 : n ≤ 256) :
  Calls Tryz.prog 8 #[.int .i64 n, .slice A es.length c, .agg (clC cl KA ka VA va)] W (Aye W) := by
 obtain ⟨X, hX⟩ : ∃ X, X = W.alloc (.cells (clC cl KA ka VA va) 24) := ⟨_, rfl⟩
 have hb0 : Below W.heap.size W X := by rw [hX]; exact Bt.one_below _ _
 have HCX : Hid (ClAt X W.heap.size cl KA ka VA va) := by show ClAt _ _ _ _ _ _ _; rw [hX]; exact ClAt.one _ _ _ _ _ _
 have hka : ∃ g o, KA = some ⟨g, o, none⟩ := by
  obtain ⟨g, o, h, _⟩ := hco.key 0 _ (List.getElem?_eq_getElem (by rw [(stC_ok hcl).1]; decide))
  exact ⟨g, o, h⟩
 have HKA := Lib.hid hka
 clear hka
 have HCO := Lib.hid (hco.below hb0)
 have HKK : Hid (cl.k.length = 32) := (stC_ok hcl).1
 have hok := stC_ok hcl
 have HOK := Lib.hid hok
 have HCL := Lib.hid hcl
 have HV3 := Lib.hid hv3
 have HX := Lib.hid hX
 have HB0 := Lib.hid hb0
 have HT := Lib.hid (tree_in nd n A c es X (hA.below hb0) hl hvl hf (hvx.below hb0) h0 h1)
 have HVE : Hid (∀ e ∈ ofE es, e.v.length ≤ 1000) := fun e he => hvl e (ofE_mem he)
 have HLE : Hid ((ofE es).length ≤ 100000) := Nat.le_trans (ofE_len es) (Nat.le_trans hl (by decide))
 have HN := Lib.hid (And.intro h0 h1)
 have HVX := Lib.hid (hvx.below hb0)
 have HEX := Lib.hid (hex.below hb0)
 have HVE2 := Lib.hid ve
 clear hA hvl hf hvx hex ve hX hb0 h0 h1 hl hco hok hcl hv3
 go_enter Tryz.func8, Tryz.ntmps8
 go_wp2_with fail
 rw [← HX.out]
 clear HX
 refine HT.out.mono ?_
 rintro _ w2 ⟨A2, c2, T, rfl, hc2, hI, hF⟩
 have HI := Lib.hid hI
 have HF2 := Lib.hid hF
 obtain ⟨O, hO⟩ : ∃ O, O = ofE es := ⟨_, rfl⟩
 rw [← hO] at HI HF2 HVE HLE ⊢
 clear hc2 hI hF HT hO
 have HHI := Lib.hid (hash_in n w2 HN.out.1 HN.out.2)
 go_wp2_with fail
 refine HHI.out.mono ?_
 rintro _ w3 ⟨b, rfl, hbn, hH, hB⟩
 have HF3 := Lib.hid (HF2.out.below nd hB)
 have HH3 := Lib.hid hH
 have HXB : Hid (X.heap.size ≤ b) := Nat.le_trans HF2.out.bel.size hbn
 have HB3 : Hid (Below X.heap.size X w3) := HF3.out.bel
 have lc := (HCX.out.below HB3.out (lt_of_heap HCX.out)).ld
 have HRC := rclaim18_c cl KA VA ka va w3
 rw [HOK.out.2.2] at HRC
 have HRC := Lib.hid HRC
 clear hbn hH hB HHI HF2
 go_wp2_with fail
 refine HRC.out.mono ?_
 rintro _ w3a ⟨rfl, hb3a⟩
 have HF3a := Lib.hid (HF3.out.below nd hb3a)
 have HH3a := Lib.hid (HH3.out.keep (Keep.of_below (L := fun _ => False) hb3a) id)
 have HB3a : Hid (Below X.heap.size X w3a) := HB3.out.trans (hb3a.mono HB3.out.size)
 have HCa := Lib.hid (HCX.out.below HB3a.out (lt_of_heap HCX.out))
 have ck := HCa.out.k
 have cv := HCa.out.v
 have d1 : decide ((300 : Int) < (cl.v.length : Int)) = false := decide_eq_false (by have := HV3.out; omega)
 obtain ⟨g0, o0, hka⟩ := HKA.out
 clear HKA
 subst hka
 have hle : 0 + 32 ≤ cl.k.length := by have := HKK.out; omega
 have htk : (cl.k.drop 0).take 32 = cl.k := by rw [List.drop_zero]; exact List.take_of_length_le (by have := HKK.out; omega)
 have aa := fun w => arr_at (t := 48) Tryz.underlying48 (some ⟨g0, o0, none⟩) cl.k.length ka (by omega) w
 have la : ldA 48 w3a (.pointer (some ⟨g0, o0, none⟩)) = .ok (.value (.agg (bA cl.k))) w3a := by
  have h := BA.ld (t := 48) (p := 0) (n := 32) (HCO.out.key.below HB3a.out) hle Tryz.underlying48 infoKey
  rw [htk] at h
  exact h
 have stk : stA 48 (w3a.alloc (.cells (Bt.kc Bt.kz) 48)) (.pointer (some ⟨w3a.heap.size, 0, none⟩)) (.agg (bA cl.k)) = .ok .skip (w3a.alloc (.cells (bA cl.k) 48)) :=
  stA_new w3a (Bt.kc Bt.kz) (bA cl.k) (by rw [bA_size, HKK.out]; exact infoKey) (by rw [Bt.kc_size, bA_size, HKK.out]) (bA_one _)
 obtain ⟨K, hK⟩ : ∃ K, K = w3a.alloc (.cells (bA cl.k) 48) := ⟨_, rfl⟩
 have hbK : Below w3a.heap.size w3a K := by rw [hK]; exact Bt.one_below _ _
 have HRK : Hid (RowB K w3a.heap.size 48 cl.k) := by show RowB _ _ _ _; rw [hK]; exact RowB.alloc w3a cl.k _
 have HFK := Lib.hid (HF3a.out.below nd hbK)
 have HHK := Lib.hid (HH3a.out.keep (Keep.of_below (L := fun _ => False) hbK) id)
 have HBK : Hid (Below X.heap.size X K) := HB3a.out.trans (hbK.mono HB3a.out.size)
 have HNK : Hid (¬ w3a.heap.size = b) := fun e => by have h1 := lt_of_heap HH3a.out; omega
 obtain ⟨rt, hrt⟩ : ∃ rt, rt = rootK 257 n (O.map En.ent) 0 := ⟨_, rfl⟩
 have HRO := root7_c n 257 A2 c2 O 0 K HFK.out.ea HLE.out HVE.out (.inr ⟨by decide, by decide⟩)
 rw [← hrt] at HRO
 have HRO := Lib.hid HRO
 have HRT := Lib.hid hrt
 have HRL : Hid (rt.length = 32) := by show _ = _; rw [hrt]; exact rootK_len _ _ _ _
 have HKE := Lib.hid hK
 clear hb3a HRC lc hrt hle htk hbK hK
 go_wp2_with fail
 rw [← HKE.out]
 refine HRO.out.mono ?_
 rintro _ w4 ⟨rfl, hb4⟩
 have st4 := stA_new (t := 47) w4 (bA z26) (bA rt) (by rw [bA_size, HRL.out]; exact info26) (by rw [bA_size, bA_size, HRL.out]; rfl) (bA_one _)
 obtain ⟨Y, hY⟩ : ∃ Y, Y = w4.alloc (.cells (bA rt) 47) := ⟨_, rfl⟩
 have hbY : Below w4.heap.size w4 Y := by rw [hY]; exact Bt.one_below _ _
 have h3Y : Below K.heap.size K Y := hb4.trans (hbY.mono hb4.size)
 have HFY := Lib.hid (HFK.out.below nd h3Y)
 have HHY := Lib.hid (HHK.out.keep (Keep.of_below (L := fun _ => False) h3Y) id)
 have HRY : Hid (Y.heap[w4.heap.size]? = some (.cells (bA rt) 47 (0, 0))) := by show _ = _; rw [hY]; exact heap_alloc_new w4 _
 have HKY := Lib.hid (HRK.out.below h3Y)
 have HBY : Hid (Below X.heap.size X Y) := HBK.out.trans (h3Y.mono HBK.out.size)
 have HNB : Hid (¬ w4.heap.size = b) := fun e => by have h1 := lt_of_heap HHK.out; have h2 := hb4.size; omega
 have lk := HKY.out.ldKey HKK.out
 have HG := Lib.hid (get7_c A2 c2 O cl.k Y HFY.out.ea HLE.out HKK.out)
 rw [← hY] at st4
 clear hb4 hY hbY h3Y HRO ck cv aa la stk HKE
 go_wp2_with fail
 refine HG.out.mono ?_
 rintro _ w5 ⟨rfl, hb5⟩
 have HF5 := Lib.hid (HFY.out.below nd hb5)
 have HH5 := Lib.hid (HHY.out.keep (Keep.of_below (L := fun _ => False) hb5) id)
 have HR5 : Hid (w5.heap[w4.heap.size]? = some (.cells (bA rt) 47 (0, 0))) := by show _ = _; rw [hb5.block _ (lt_of_heap HRY.out)]; exact HRY.out
 have HK5 := Lib.hid (HKY.out.below hb5)
 have HB5 : Hid (Below X.heap.size X w5) := HBY.out.trans (hb5.mono HBY.out.size)
 have lk5 := HK5.out.ldKey HKK.out
 obtain ⟨VB, vc, vv, pr, hgv, hgs, hvc, hvl, hvb, htr⟩ := get18b n cl.k HF5.out.ea HVE.out
 rw [hgv, hgs]
 have HVC := Lib.hid hvc
 have HVL := Lib.hid hvl
 have HVB := Lib.hid hvb
 obtain ⟨S, hS⟩ : ∃ S, S = decide (digL n (valL vv) = digL n (valL cl.v)) := ⟨_, rfl⟩
 have HTR : Hid (trueC n (O.map En.ent) cl = ((cl.pr == pr) && (!pr || S))) := by show _ = _; rw [hS]; exact htr cl rfl
 obtain ⟨P, hP⟩ : ∃ P, P = prK n (O.map En.ent) cl.k (T.dep cl.k 0) := ⟨_, rfl⟩
 obtain ⟨hfew, hdep⟩ : (dK (O.map En.ent) cl.k (T.dep cl.k 0)).length ≤ 1 ∧ ∀ j, j < T.dep cl.k 0 → 2 ≤ (dK (O.map En.ent) cl.k j).length := by
  obtain ⟨i1, i2, i3⟩ := At.fin HI.out.sep T 0 (HI.out.at cl.k)
  exact ⟨i1.few HI.out.sep i2, fun j hj => i3 j (Nat.zero_le _) hj⟩
 have hd256 : T.dep cl.k 0 ≤ 256 := dep_le HI.out.sep (HI.out.at cl.k)
 have HPO : Hid P.Ok := by rw [hP]; exact prK_ok HI.out.sep cl.k
 have HPC : Hid (chkP P = 0) := by show _ = _; rw [hP]; exact prK_good hd256 hdep hfew
 have hsz : P.sib.length ≤ 256 := by
  have hgd : (Bt.setZ (keyF P.bm) 256).length = P.sib.length := by
   rcases chkP_cases P with ⟨h1, _⟩ | ⟨_, ⟨h1, _⟩ | ⟨_, h2⟩⟩
   ·have := HPC.out; omega
   ·have := HPC.out; omega
   ·exact h2.2.2.2.1
  rw [← hgd]
  exact setZ_le17 _ 256
 have HSZ := Lib.hid hsz
 obtain ⟨z, hz⟩ : ∃ z, z = (ckV n rt cl (encP P)).2 := ⟨_, rfl⟩
 have HCK : Hid (z = if ((cl.pr == pr) && (!pr || S)) = true then 0 else 12) := by
  show _ = _
  rw [hz, ckE18 HRL.out HCL.out HPO.out HPC.out, hP, HRT.out, lead18 HI.out.sep hd256 hdep hfew HKK.out, HTR.out]
  split <;> rfl
 have HZZ := Lib.hid hz
 have HPV := pf.prove w5 b n 0 (O.map En.ent) T cl.k HH5.out (by decide) HF5.out.vars HF5.out.ms HI.out HKK.out
 rw [← hP] at HPV
 have HPV := Lib.hid HPV
 have HLN : Hid ((encP P).length ≤ 1000000) := by
  show _ ≤ _
  rw [encP_len HPO.out]
  split <;> omega
 have HSS := Lib.hid hS
 clear hb5 HG st4 lk hgv hgs hvc hvl hvb htr hP hfew hdep hd256 hsz hz hS
 go_wp2_with fail
 refine HPV.out.mono ?_
 rintro _ w6 ⟨A6, c6, m6, rfl, hN6, hm6, hH6, hk6⟩
 have HB6 : Hid (Below X.heap.size X w6) := keep_new HB5.out HXB.out hk6
 have HR6 : Hid (w6.heap[w4.heap.size]? = some (.cells (bA rt) 47 (0, 0))) := hk6.heap HR5.out HNB.out
 have HK6 : Hid (RowB w6 w3a.heap.size 48 cl.k) := hk6.heap HK5.out HNK.out
 have HE6 : Hid (EA w6 A2 O) := HF5.out.ea.hs18 HH5.out hk6
 have HH6 := Lib.hid hH6
 have HM6 := Lib.hid hm6
 have HEN := Lib.hid (co.encode w6 P A6 c6 HPO.out (hN6.ds HPO.out.sib) hN6.1 (by have := HSZ.out; omega) HPC.out)
 clear hN6 hm6 hH6 hk6 HPV lk5
 go_wp2_with fail
 refine HEN.out.mono ?_
 rintro _ w7 ⟨v7, rfl, hO7, hb7⟩
 obtain ⟨D, cd, rfl, hcd, hD⟩ := hO7.any
 have HCD := Lib.hid hcd
 have HD7 := Lib.hid hD
 have HB7 : Hid (Below X.heap.size X w7) := HB6.out.trans (hb7.mono HB6.out.size)
 have HR7 : Hid (w7.heap[w4.heap.size]? = some (.cells (bA rt) 47 (0, 0))) := by show _ = _; rw [hb7.block _ (lt_of_heap HR6.out)]; exact HR6.out
 have HK7 := Lib.hid (HK6.out.below hb7)
 have HE7 : Hid (EA w7 A2 O) := HE6.out.below hb7
 have HH7 := Lib.hid (HH6.out.keep (Keep.of_below (L := fun _ => False) hb7) id)
 clear hO7 hcd hD hb7 HEN
 have HBX : Hid (∀ w', Keep (fun i => i = b) w7 w' → Below W.heap.size W w') := fun w' h => HB0.out.trans ((keep_new HB7.out HXB.out h).mono HB0.out.size)
 have HBV : Hid (∀ w', Keep (fun i => i = b) w7 w' → Below X.heap.size X w') := fun w' h => keep_new HB7.out HXB.out h
 have HAL : Hid (∀ v, Keep (fun i => i = b) w7 v → Calls Tryz.prog 11 #[] v fun e w' => e = .returned (.bool true) ∧ Below v.heap.size v w') := fun v h => alive18_c HVE2.out co v (HVX.out.below (HBV.out v h)) (HEX.out.below (HBV.out v h))
 have HCD2 : Hid (∀ v, Keep (fun i => i = b) w7 v → ClAt v W.heap.size cl (some ⟨g0, o0, none⟩) ka VA va) := fun v h => HCX.out.below (HBV.out v h) (lt_of_heap HCX.out)
 have LC : Hid (∀ v, Keep (fun i => i = b) w7 v → ldA 24 v (.pointer (some ⟨W.heap.size, 0, none⟩)) = .ok (.value (.agg (clC cl (some ⟨g0, o0, none⟩) ka VA va))) v) := fun v h => (HCD2.out v h).ld
 have HKC : Hid (∀ v, Keep (fun i => i = b) w7 v → Hs v b n m6 → Calls Tryz.prog 14 #[ptr b, .slice (some ⟨w4.heap.size, 0, none⟩) 32 32, .agg (clC cl (some ⟨g0, o0, none⟩) ka VA va), .slice D (encP P).length cd] v fun e w' => e = .returned (.int .i64 z) ∧ Keep (fun i => i = b) v w') := fun v h hh => by
  have hcv := HCO.out.below (HBV.out v h)
  have := HVE2.out.check v b n m6 rt (some ⟨w4.heap.size, 0, none⟩) 32 cl (some ⟨g0, o0, none⟩) VA ka va (encP P) D cd hh (by have := HM6.out; omega) (HVX.out.below (HBV.out v h)) (HEX.out.below (HBV.out v h)) (BA_row18 (h.heap HR7.out HNB.out)) (by rw [HRL.out]; exact Nat.le_refl _)
   hcv (HD7.out.hs16 HH7.out h) HCD.out HLN.out
  rw [← HZZ.out, HRL.out] at this
  exact this.mono fun e w' ⟨m', g1, _, _, g4⟩ => ⟨g1, g4⟩
 have HH0 : Hid (Hs w7.drew b n m6) := HH7.out
 go_wp2_with fail
 refine wp_region_held_drew (S := fun w' => Keep (fun i => i = b) w7 w') (by kernel_rfl) ((Keep.refl _ _).drew) (fun hHeld => ?_)
 have hb0 : Keep (fun i => i = b) w7 w7.drew := (Keep.refl _ _).drew
 refine x_t (i := 0) (oi := { dst := some 69, op := .move (.tmp 10), .. }) (v := ?_) rfl (Or.inl ⟨by rfl, ?_⟩) ?_
 rotate_left 1
 ·intro v hSv
  clear hSv
  go_simp
  try with_reducible rfl
 try simp only [Act.put, x_A, x_0, x_1]
 refine x_t (i := 1) (oi := { dst := some 70, op := .slice _ (.tmp 14) none none none, .. }) (v := ?_) rfl (Or.inl ⟨by rfl, ?_⟩) ?_
 rotate_left 1
 ·intro v hSv
  clear hSv
  go_simp
  try with_reducible rfl
 try simp only [Act.put, x_A, x_0, x_1]
 refine x_t (i := 2) (oi := { dst := some 71, op := .load _ (.tmp 5), .. }) (v := ?_) rfl (Or.inl ⟨by rfl, ?_⟩) ?_
 rotate_left 1
 ·intro v hSv
  have hv1 := LC.out v hSv
  clear hSv
  go_simp
  try with_reducible rfl
 try simp only [Act.put, x_A, x_0, x_1]
 refine x_t (i := 3) (oi := { dst := some 72, op := .move (.tmp 17), .. }) (v := ?_) rfl (Or.inl ⟨by rfl, ?_⟩) ?_
 rotate_left 1
 ·intro v hSv
  clear hSv
  go_simp
  try with_reducible rfl
 try simp only [Act.put, x_A, x_0, x_1]
 refine wpAnyH_ready (rs := [4]) (by kernel_rfl) (by simp) ?_
 refine AllReadyH.cons (o := { dst := some 73, op := .call _, .. }) rfl (fun K hK => ?_) AllReadyH.nil
 go_simp
 refine (HKC.out _ (by assumption) HH0.out).mono ?_
 rintro e y1 ⟨rfl, hb⟩
 have hb1 : Keep (fun i => i = b) w7 y1 := (hb0).trans hb
 clear hb
 go_wp2_with fail
 refine hK.out _ _ (hb1) (fun hHeld => ?_)
 clear hK K
 try simp only [Act.put, x_A, x_0, x_1]
 refine x_t (i := 5) (oi := { dst := some 19, op := .assign (.tmp 73), .. }) (v := ?_) rfl (Or.inl ⟨by rfl, ?_⟩) ?_
 rotate_left 1
 ·intro v hSv
  clear hSv
  go_simp
  try with_reducible rfl
 try simp only [Act.put, x_A, x_0, x_1]
 refine wpAnyH_done (by kernel_rfl) ?_ _
 go_wp2_with fail
 have HKQ := Lib.hid (hb1)
 obtain ⟨Q, hQ⟩ : ∃ Q, Q = y1 := ⟨_, rfl⟩
 rw [← hQ] at HKQ ⊢
 clear hQ
 have HRQ : Hid (RowB Q w3a.heap.size 48 cl.k) := HKQ.out.heap HK7.out HNK.out
 have HEQ : Hid (EA Q A2 O) := HE7.out.hs18 HH7.out HKQ.out
 have HCQ := Lib.hid (HCD2.out Q HKQ.out)
 have HCB := Lib.hid (HCO.out.below (HBV.out Q HKQ.out))
 have lq : ∀ x : Later Q, ldA 48 x.w (.pointer (some ⟨w3a.heap.size, 0, none⟩)) = .ok (.value (.agg (bA cl.k))) x.w := fun x => (HRQ.out.below x.h).ldKey HKK.out
 have cq : ∀ x : Later Q, x.w.cell? ⟨W.heap.size, 1, none⟩ = some (.slice VA cl.v.length va) := fun x => (HCQ.out.below x.h (lt_of_heap HCQ.out)).v
 have HLF : Hid (∀ (x : Later Q) (A : Option Addr) (c : Nat) (l : List UInt8), (A = VB ∧ c = vc ∧ l = vv) ∨ (A = VA ∧ c = va ∧ l = cl.v) → Calls Tryz.prog 29 #[.int .i64 n, .agg (bA cl.k), .slice A l.length c] x.w fun y w' => y = .returned (.agg (bA (cl.k ++ digL n (valL l)))) ∧ Below x.w.heap.size x.w w') := fun x A c l h => by
  rcases h with ⟨rfl, rfl, rfl⟩ | ⟨rfl, rfl, rfl⟩
  ·exact rleafof_c n cl.k A c l x.w HKK.out (HVB.out x.w (HEQ.out.below x.h)) HVL.out
  ·exact rleafof_c n cl.k A c cl.v x.w HKK.out (HCB.out.val.below x.h) (by have := HV3.out; omega)
 have el : ∀ x y w, eqA .eql 50 x y w (.agg (bA (cl.k ++ digL n (valL vv)))) (.agg (bA (cl.k ++ digL n (valL cl.v)))) = .ok (.value (.bool S)) w := fun x y w => by
  rw [eqLeaf _ _ (by rw [List.length_append, HKK.out, dig_len]) (by rw [List.length_append, HKK.out, dig_len]), HSS.out]
  congr 3
  exact decide_eq_decide.2 ⟨fun h => List.append_cancel_left h, fun h => by rw [h]⟩
 clear HKC HH0 LC
 go_wp2_with fail
 refine wp_region_later (by kernel_rfl) (by kernel_rfl) ?_
 repeat (go_big_quiet_step ((go_at_call 29; exact Later.call (HLF.out _ _ _ _ (by first | exact .inl ⟨rfl, rfl, rfl⟩ | exact .inr ⟨rfl, rfl, rfl⟩)))))
 refine wpQuiet_nil ?_
 rintro _ ⟨x, rfl⟩
 have HKX : Hid (Keep (fun i => i = b) w7 x.w) := HKQ.out.trans (Keep.of_below x.h)
 have cp := (HCQ.out.below x.h (lt_of_heap HCQ.out)).pr
 obtain ⟨U, hU⟩ : ∃ U, U = x.w := ⟨_, rfl⟩
 rw [← hU] at HKX cp ⊢
 have HAU := Lib.hid (HAL.out U HKX.out)
 obtain ⟨q, hq⟩ : ∃ q, q = cl.pr := ⟨_, rfl⟩
 rw [← hq] at cp HCK
 clear hq hU lq cq el HLF
 cases q <;> cases pr <;> cases S
 ·have HZ : Hid (z = 0) := by show _ = _; rw [HCK.out]; rfl
  obtain rfl := HZ.out
  clear HCK HZ
  go_wp2_with fail
  refine HAU.out.mono ?_
  rintro _ w9 ⟨rfl, hb9⟩
  have HB9 := Lib.hid (HKX.out.trans (Keep.of_below hb9))
  clear hb9 cp HAU
  go_wp2_with fail
  go_ret
  exact ⟨rfl, HBX.out _ HB9.out⟩
 ·have HZ : Hid (z = 0) := by show _ = _; rw [HCK.out]; rfl
  obtain rfl := HZ.out
  clear HCK HZ
  go_wp2_with fail
  refine HAU.out.mono ?_
  rintro _ w9 ⟨rfl, hb9⟩
  have HB9 := Lib.hid (HKX.out.trans (Keep.of_below hb9))
  clear hb9 cp HAU
  go_wp2_with fail
  go_ret
  exact ⟨rfl, HBX.out _ HB9.out⟩
 ·have HZ : Hid (z = 12) := by show _ = _; rw [HCK.out]; rfl
  obtain rfl := HZ.out
  clear HCK HZ
  go_wp2_with fail
  refine HAU.out.mono ?_
  rintro _ w9 ⟨rfl, hb9⟩
  have HB9 := Lib.hid (HKX.out.trans (Keep.of_below hb9))
  clear hb9 cp HAU
  go_wp2_with fail
  go_ret
  exact ⟨rfl, HBX.out _ HB9.out⟩
 ·have HZ : Hid (z = 12) := by show _ = _; rw [HCK.out]; rfl
  obtain rfl := HZ.out
  clear HCK HZ
  go_wp2_with fail
  refine HAU.out.mono ?_
  rintro _ w9 ⟨rfl, hb9⟩
  have HB9 := Lib.hid (HKX.out.trans (Keep.of_below hb9))
  clear hb9 cp HAU
  go_wp2_with fail
  go_ret
  exact ⟨rfl, HBX.out _ HB9.out⟩
 ·have HZ : Hid (z = 12) := by show _ = _; rw [HCK.out]; rfl
  obtain rfl := HZ.out
  clear HCK HZ
  go_wp2_with fail
  refine HAU.out.mono ?_
  rintro _ w9 ⟨rfl, hb9⟩
  have HB9 := Lib.hid (HKX.out.trans (Keep.of_below hb9))
  clear hb9 cp HAU
  go_wp2_with fail
  go_ret
  exact ⟨rfl, HBX.out _ HB9.out⟩
 ·have HZ : Hid (z = 12) := by show _ = _; rw [HCK.out]; rfl
  obtain rfl := HZ.out
  clear HCK HZ
  go_wp2_with fail
  refine HAU.out.mono ?_
  rintro _ w9 ⟨rfl, hb9⟩
  have HB9 := Lib.hid (HKX.out.trans (Keep.of_below hb9))
  clear hb9 cp HAU
  go_wp2_with fail
  go_ret
  exact ⟨rfl, HBX.out _ HB9.out⟩
 ·have HZ : Hid (z = 12) := by show _ = _; rw [HCK.out]; rfl
  obtain rfl := HZ.out
  clear HCK HZ
  go_wp2_with fail
  refine HAU.out.mono ?_
  rintro _ w9 ⟨rfl, hb9⟩
  have HB9 := Lib.hid (HKX.out.trans (Keep.of_below hb9))
  clear hb9 cp HAU
  go_wp2_with fail
  go_ret
  exact ⟨rfl, HBX.out _ HB9.out⟩
 ·have HZ : Hid (z = 0) := by show _ = _; rw [HCK.out]; rfl
  obtain rfl := HZ.out
  clear HCK HZ
  go_wp2_with fail
  refine HAU.out.mono ?_
  rintro _ w9 ⟨rfl, hb9⟩
  have HB9 := Lib.hid (HKX.out.trans (Keep.of_below hb9))
  clear hb9 cp HAU
  go_wp2_with fail
  go_ret
  exact ⟨rfl, HBX.out _ HB9.out⟩
theorem refuses18_out (co : CoV) (ve : VeV) (n : Int) (A : Option Addr) (c : Nat) (es : List En) (cl : Cl) (KA VA : Option Addr) (ka va : Nat) (W : World) (hA : EA W A es) (hvx : Vars W) (hex : Ft.ErrVar W) (h : (n < 0 ∨ 256 < n) ∨ fewK (es.map En.ent) = false) :
  Calls Tryz.prog 8 #[.int .i64 n, .slice A es.length c, .agg (clC cl KA ka VA va)] W (Aye W) := by
 obtain ⟨X, hX⟩ : ∃ X, X = W.alloc (.cells (clC cl KA ka VA va) 24) := ⟨_, rfl⟩
 have hb0 : Below W.heap.size W X := by rw [hX]; exact Bt.one_below _ _
 have HCX : Hid (ClAt X W.heap.size cl KA ka VA va) := by show ClAt _ _ _ _ _ _ _; rw [hX]; exact ClAt.one _ _ _ _ _ _
 have HX := Lib.hid hX
 have HB0 := Lib.hid hb0
 have HT := Lib.hid (tree_out n A c es X (hA.below hb0) h)
 have HAL := Lib.hid (fun w h => alive18_c ve co w ((hvx.below hb0).below h) ((hex.below hb0).below h))
 clear hA h hX hb0 hvx hex
 go_enter Tryz.func8, Tryz.ntmps8
 go_wp2_with fail
 rw [← HX.out]
 clear HX
 refine HT.out.mono ?_
 rintro _ w2 ⟨rfl, hB⟩
 have HB := Lib.hid hB
 clear hB HT
 go_wp2_with fail
 refine (hash_any n w2).mono ?_
 rintro _ w3 ⟨q, rfl, hB3⟩
 have HB3 := Lib.hid (keeps HB.out hB3)
 have lc := (HCX.out.below HB3.out (lt_of_heap HCX.out)).ld
 have HRC := Lib.hid (rclaim18_c cl KA VA ka va w3)
 clear hB3
 go_wp2_with fail
 refine HRC.out.mono ?_
 rintro _ w3a ⟨rfl, hb3a⟩
 have HB3a := Lib.hid (keeps HB3.out hb3a)
 obtain ⟨s1, hs1⟩ : ∃ s, s = (stC cl).1 := ⟨_, rfl⟩
 obtain ⟨s2, hs2⟩ : ∃ s, s = (stC cl).2 := ⟨_, rfl⟩
 rw [← hs1, ← hs2]
 clear hb3a HRC lc hs1 hs2
 go_wp2_with fail
 refine (HAL.out w3a HB3a.out).mono ?_
 rintro _ w4 ⟨rfl, hB4⟩
 have HB4 := Lib.hid (keeps HB3a.out hB4)
 clear hB4
 go_wp2_with fail
 go_ret
 exact ⟨rfl, keeps HB0.out HB4.out⟩
theorem refuses18_bad {M : World → Int → Tv → Prop} (nd : NdV M) (co : CoV) (ve : VeV) (n : Int) (A : Option Addr) (c : Nat) (es : List En) (cl : Cl) (KA VA : Option Addr) (ka va : Nat) (W : World) (hA : EA W A es) (hl : es.length ≤ 12) (hvl : ∀ e ∈ es, e.v.length ≤ 1000) (hf : fewK (es.map En.ent) = true) (hvx : Vars W) (hex : Ft.ErrVar W) (h0 : 0 ≤ n) (h1 : n ≤ 256)
  (hbad : (stC cl).2 ≠ 0 ∨ 300 < cl.v.length) :
  Calls Tryz.prog 8 #[.int .i64 n, .slice A es.length c, .agg (clC cl KA ka VA va)] W (Aye W) := by
 obtain ⟨X, hX⟩ : ∃ X, X = W.alloc (.cells (clC cl KA ka VA va) 24) := ⟨_, rfl⟩
 have hb0 : Below W.heap.size W X := by rw [hX]; exact Bt.one_below _ _
 have HCX : Hid (ClAt X W.heap.size cl KA ka VA va) := by show ClAt _ _ _ _ _ _ _; rw [hX]; exact ClAt.one _ _ _ _ _ _
 have HX := Lib.hid hX
 have HB0 := Lib.hid hb0
 have HT := Lib.hid (tree_in nd n A c es X (hA.below hb0) hl hvl hf (hvx.below hb0) h0 h1)
 have HAL := Lib.hid (fun w h => alive18_c ve co w ((hvx.below hb0).below h) ((hex.below hb0).below h))
 have HN := Lib.hid (And.intro h0 h1)
 clear hA hvl hf hvx hex ve hX hb0 h0 h1 hl
 go_enter Tryz.func8, Tryz.ntmps8
 go_wp2_with fail
 rw [← HX.out]
 clear HX
 refine HT.out.mono ?_
 rintro _ w2 ⟨A2, c2, T, rfl, hc2, hI, hF⟩
 have HF2 := Lib.hid hF
 clear hc2 hI hF HT
 have HHI := Lib.hid (hash_in n w2 HN.out.1 HN.out.2)
 go_wp2_with fail
 refine HHI.out.mono ?_
 rintro _ w3 ⟨b, rfl, hbn, hH, hB⟩
 have HF3 := Lib.hid (HF2.out.below nd hB)
 have HB3 : Hid (Below X.heap.size X w3) := HF3.out.bel
 have lc := (HCX.out.below HB3.out (lt_of_heap HCX.out)).ld
 have HRC := Lib.hid (rclaim18_c cl KA VA ka va w3)
 clear hbn hH hB HHI HF2
 go_wp2_with fail
 refine HRC.out.mono ?_
 rintro _ w3a ⟨rfl, hb3a⟩
 have HB3a := Lib.hid (keeps HB3.out hb3a)
 have HCa := Lib.hid (HCX.out.below HB3a.out (lt_of_heap HCX.out))
 have cv := HCa.out.v
 obtain ⟨s1, hs1⟩ : ∃ s, s = (stC cl).1 := ⟨_, rfl⟩
 obtain ⟨s2, hs2⟩ : ∃ s, s = (stC cl).2 := ⟨_, rfl⟩
 rw [← hs1, ← hs2]
 rw [← hs2] at hbad
 clear hb3a HRC lc hs1 hs2
 by_cases hz : s2 = 0
 ·have d1 : decide ((300 : Int) < (cl.v.length : Int)) = true := decide_eq_true (by omega)
  subst hz
  clear hbad
  go_wp2_with fail
  refine (HAL.out w3a HB3a.out).mono ?_
  rintro _ w4 ⟨rfl, hB4⟩
  have HB4 := Lib.hid (keeps HB3a.out hB4)
  clear hB4
  go_wp2_with fail
  go_ret
  exact ⟨rfl, keeps HB0.out HB4.out⟩
 ·clear hbad
  go_wp2_with fail
  refine (HAL.out w3a HB3a.out).mono ?_
  rintro _ w4 ⟨rfl, hB4⟩
  have HB4 := Lib.hid (keeps HB3a.out hB4)
  clear hB4
  go_wp2_with fail
  go_ret
  exact ⟨rfl, keeps HB0.out HB4.out⟩
theorem refuses18_w {M : World → Int → Tv → Prop} (nd : NdV M) (pf : PfV M) (co : CoV) (ve : VeV) (n : Int) (A : Option Addr) (c : Nat) (es : List En) (cl : Cl) (KA VA : Option Addr) (ka va : Nat) (W : World) (hA : EA W A es) (hvx : Vars W) (hex : Ft.ErrVar W) (hco : ClOk W cl KA ka VA va) :
  Calls Tryz.prog 8 #[.int .i64 n, .slice A es.length c, .agg (clC cl KA ka VA va)] W (Aye W) := by
 rcases Classical.em ((n < 0 ∨ 256 < n) ∨ fewK (es.map En.ent) = false) with h | h
 ·exact refuses18_out co ve n A c es cl KA VA ka va W hA hvx hex h
 ·have hf : fewK (es.map En.ent) = true := by
   cases hq : fewK (es.map En.ent) with
   | true => rfl
   | false => exact absurd (.inr hq) h
  have hl := few_len hf
  rw [List.length_map] at hl
  have hvl : ∀ e ∈ es, e.v.length ≤ 1000 := fun e he => Nat.le_trans (few_val hf e.ent (List.mem_map.2 ⟨e, he, rfl⟩)) (by decide)
  rcases Classical.em ((stC cl).2 ≠ 0 ∨ 300 < cl.v.length) with hb | hb
  ·exact refuses18_bad nd co ve n A c es cl KA VA ka va W hA hl hvl hf hvx hex (by omega) (by omega) hb
  ·have hs : (stC cl).2 = 0 := by
    rcases Classical.em ((stC cl).2 = 0) with e | e
    ·exact e
    ·exact absurd (.inl e) hb
   exact refuses18_in nd pf co ve n A c es cl KA VA ka va W hA hl hvl hf hvx hex hco hs (by omega) (by omega) (by omega)
end Go.Proofs.YtjgdindjimbfeaaGreatDoor
