/- The function of ProofIsTrue returns true, over contracts. -/
import Derived.Test.YtfeabjcnfgcmkaaGreatDoorAm
import Derived.Test.YtfeabjcnfgcmkaaGreatDoorAn
import Derived.Test.YtfeabjcnfgcmkaaGreatDoorMO
import Derived.Laws.BitsAllLaws
namespace Go.Proofs.YtfeabjcnfgcmkaaGreatDoor
open Go.RowKit

theorem field_leafVal_f (f : Nat → UInt8) (w : World) : (Instr.field 34 (.agg (bA ((List.range 64).map f))) 1).run Tryz.prog w = .ok (.agg (bA ((List.range 32).map fun j => f (32 + j)))) w := by kernel_rfl
theorem field_leafVal (a d : List UInt8) (ha : a.length = 32) (hd : d.length = 32) (w : World) : (Instr.field 34 (.agg (bA (a ++ d))) 1).run Tryz.prog w = .ok (.agg (bA d)) w := by
  have h1 := field_leafVal_f (fun j => (a ++ d).getD j 0) w
  have e1 : (List.range 64).map (fun j => (a ++ d).getD j 0) = a ++ d := by
    refine List.ext_getElem (by simp [ha, hd]) fun j h2 h3 => ?_
    simp [List.getD_eq_getElem?_getD, List.getElem?_eq_getElem h3]
  have e2 : (List.range 32).map (fun j => (a ++ d).getD (32 + j) 0) = d := by
    refine List.ext_getElem (by simp [hd]) fun j h2 h3 => ?_
    simp [List.getD_eq_getElem?_getD, List.getElem?_append_right (show a.length ≤ 32 + j by omega), ha, List.getElem?_eq_getElem h3]
  rw [e1, e2] at h1
  exact h1
/-- What the reference's Get finds. -/
theorem get_value {O : List En} {w : World} {A : Option Addr} (hE : EA w A O) (k : List UInt8) : ∃ (vA : Option Addr) (vc : Nat) (vl : List UInt8), getVal (getE O k) = .slice vA vl.length vc ∧ BA w vA vl ∧ (vl = [] ∨ ∃ e ∈ O, e.v = vl) ∧ (∀ e, getE O k = some e → e.v = vl) := by
  cases h : getE O k with
  | none => exact ⟨none, 0, [], rfl, fun j x hx => by simp at hx, .inl rfl, fun e he => by cases he⟩
  | some e =>
    have hm := (getE_mem h).1
    exact ⟨e.A, e.c, e.v, rfl, (hE.mem e hm).val, .inr ⟨e, hm, rfl⟩, fun e' he => by cases he; rfl⟩
theorem get_vals {O : List En} {k vl : List UInt8} {D : Nat} (h2 : (dK (O.map En.ent) k D).length ≤ 1) (hv : ∀ e, getE O k = some e → e.v = vl) : ∀ e ∈ O.map En.ent, e.k = k → e.v = vl := fun e he hk => by
  have hm := getE_map O k
  cases h : getE O k with
  | none =>
    rw [h] at hm
    exact absurd hk (find_key.1 hm.symm e he)
  | some e0 =>
    obtain ⟨h3, h4⟩ := getE_mem h
    have e1 := end_key h2 he hk
    have e2 := end_key h2 (List.mem_map.2 ⟨e0, h3, rfl⟩) (show e0.ent.k = k from h4)
    rw [e1] at e2
    have : e = e0.ent := by simpa using e2
    rw [this]
    exact hv e0 h
theorem xor_ne (x : UInt8) : x ^^^ 255 ≠ x := fun h => by
  have h1 : x ^^^ (x ^^^ 255) = x ^^^ x := by rw [h]
  rw [← UInt8.xor_assoc, UInt8.xor_self, UInt8.zero_xor] at h1
  exact absurd h1 (by decide)
theorem other_ne {d : List UInt8} {x : UInt8} (h : d[0]? = some x) : d.set 0 (x ^^^ 255) ≠ d := fun e => by
  have h1 : (d.set 0 (x ^^^ 255))[0]? = some (x ^^^ 255) := by
    have := (List.getElem?_eq_some_iff.1 h).1
    rw [List.getElem?_set, if_pos rfl, if_pos this]
  rw [e, h] at h1
  exact xor_ne x (Option.some.inj h1).symm
set_option linter.unusedSimpArgs false in
set_option maxHeartbeats 8000000 in
set_option maxRecDepth 100000 in
theorem true15_in {M : World → Int → Tv → Prop} (nd : NdV M) (pv : PtV M) (pf : PfV M) (n : Int) (A : Option Addr) (c : Nat) (es : List En) (k : List UInt8) (hk : k.length = 32) (W : World) (hA : EA W A es) (hl : es.length ≤ 12) (hvl : ∀ e ∈ es, e.v.length ≤ 1000) (hf : fewK (es.map En.ent) = true) (hvx : Vars W) (h0 : 0 ≤ n) (h1 : n ≤ 256) :
    Calls Tryz.prog 4 #[.int .i64 n, .slice A es.length c, .agg (bA k)] W (Aye W) := by
  obtain ⟨X, hX⟩ : ∃ X, X = W.alloc (.cells (bA k) 24) := ⟨_, rfl⟩
  have hb0 : Below W.heap.size W X := by rw [hX]; exact Bt.one_below _ _
  have HR0 : Hid (RowB X W.heap.size 24 k) := by show RowB _ _ _ _; rw [hX]; exact RowB.alloc W k _
  have HX := Lib.hid hX
  have HB0 := Lib.hid hb0
  have HT := Lib.hid (tree_in nd n A c es X (hA.below hb0) hl hvl hf (hvx.below hb0) h0 h1)
  have HVE : Hid (∀ e ∈ ofE es, e.v.length ≤ 1000) := fun e he => hvl e (ofE_mem he)
  have HLE : Hid ((ofE es).length ≤ 100000) := Nat.le_trans (ofE_len es) (Nat.le_trans hl (by decide))
  have HN := Lib.hid (And.intro h0 h1)
  have HVX := Lib.hid (hvx.below hb0)
  clear hA hvl hf hvx hX hb0 h0 h1
  go_enter Tryz.func4, Tryz.ntmps4
  go_wp2_with fail
  rw [← HX.out]
  clear HX
  refine HT.out.mono ?_
  rintro _ w2 ⟨A2, c2, T, rfl, hc2, hI, hF⟩
  have HI := Lib.hid hI
  have HF2 := Lib.hid hF
  obtain ⟨O, hO⟩ : ∃ O, O = ofE es := ⟨_, rfl⟩
  rw [← hO] at HI HF2 HVE HLE ⊢
  clear hc2 hI hF HT hO
  have HHI := Lib.hid (hash_in n w2 HN.out.1 HN.out.2)
  go_wp2_with fail
  refine HHI.out.mono ?_
  rintro _ w3 ⟨b, rfl, hbn, hH, hB⟩
  have HF3 := Lib.hid (HF2.out.below nd hB)
  have HXB : Hid (X.heap.size ≤ b) := Nat.le_trans HF2.out.bel.size hbn
  have LK : Hid (∀ w', Below X.heap.size X w' → ldA 24 w' (.pointer (some ⟨W.heap.size, 0, none⟩)) = .ok (.value (.agg (bA k))) w') := fun w' h => (HR0.out.below h).ldKey hk
  have HAL : Hid (∀ w, Below X.heap.size X w → Calls Tryz.prog 8 #[] w fun e w' => e = .returned (.bool true) ∧ Below w.heap.size w w') := fun w h => alive15_c nd pv pf _ (HVX.out.below h)
  have HPR := Lib.hid (pf.prove w3 b n 0 (O.map En.ent) T k hH (by omega) HF3.out.vars HF3.out.ms HI.out hk)
  have HH3 := Lib.hid hH
  have lk := LK.out w3 HF3.out.bel
  clear hbn hH hB HHI HF2 HR0 HVX
  go_wp2_with fail
  refine HPR.out.mono ?_
  rintro _ w5 ⟨A5, c5, m5, rfl, hN, _, hHs, hK⟩
  have HF5 := Lib.hid (HF3.out.hs nd HH3.out HXB.out hK)
  obtain ⟨P, hP⟩ : ∃ P, P = prK n (O.map En.ent) k (T.dep k 0) := ⟨_, rfl⟩
  obtain ⟨hfew, hdep⟩ : (dK (O.map En.ent) k (T.dep k 0)).length ≤ 1 ∧ ∀ j, j < T.dep k 0 → 2 ≤ (dK (O.map En.ent) k j).length := by
    obtain ⟨i1, i2, i3⟩ := At.fin HI.out.sep T 0 (HI.out.at k)
    exact ⟨i1.few HI.out.sep i2, fun j hj => i3 j (Nat.zero_le _) hj⟩
  have hpo : P.Ok := by rw [hP]; exact prK_ok HI.out.sep k
  have HPO := Lib.hid hpo
  have hd256 := dep_le HI.out.sep (HI.out.at k)
  have HPL : Hid (P.sib.length ≤ 1000000) := by
    show P.sib.length ≤ 1000000
    rw [hP]
    show (sibS n (O.map En.ent) k (T.dep k 0)).length ≤ 1000000
    rw [← depS_len]
    have := depS_le (O.map En.ent) k (T.dep k 0)
    omega
  have HCK : Hid (chkP P = 0) := by show chkP P = 0; rw [hP]; exact prK_good (by omega) hdep hfew
  have HD5 : Hid (DS w5 A5 P.sib) := by show DS _ _ _; rw [hP]; exact hN.ds (prK_ok HI.out.sep k).sib
  have HCC : Hid (P.sib.length ≤ c5) := by show _ ≤ _; rw [hP]; exact hN.1
  obtain ⟨vA, vc, vl, hgv, hba, hvm, hvv⟩ := get_value HF5.out.ea k
  have hgs := get_vals hfew hvv
  obtain ⟨has, hhas⟩ : ∃ has, has = (getE O k).isSome := ⟨_, rfl⟩
  have hhf : ((O.map En.ent).find? fun e => decide (e.k = k)).isSome = has := by rw [← getE_map, Option.isSome_map, hhas]
  obtain ⟨d, hd⟩ : ∃ d, d = digL n (valL vl) := ⟨_, rfl⟩
  have HDL : Hid (d.length = 32) := by show _ = _; rw [hd]; exact dig_len _ _
  obtain ⟨x, hx⟩ : ∃ x, d[0]? = some x := ⟨_, List.getElem?_eq_getElem (by have := HDL.out; omega)⟩
  have HY : Hid (supYes P k d = has) := by show _ = _; rw [hP, hd, sup_yes HI.out.sep hfew hk vl hgs, hhf]
  have HNO : Hid (supNo P k = !has) := by show _ = _; rw [hP, sup_no HI.out.sep (by omega) hfew hk, hhf]
  have HOT : Hid (supYes P k (d.set 0 (x ^^^ 255)) = false) := by
    show _ = _
    rw [hP]
    exact sup_other HI.out.sep vl _ hgs (by rw [← hd]; exact other_ne hx)
  have HVL : Hid (vl.length ≤ 1000) := by
    show _ ≤ _
    rcases hvm with h | ⟨e, h1, h2⟩
    · rw [h]; exact Nat.zero_le _
    · rw [← h2]; exact HVE.out e h1
  have HBA := Lib.hid hba
  have HGT : Hid (∀ w, EA w A2 O → Calls Tryz.prog 12 #[.slice A2 O.length c2, .agg (bA k)] w fun e w' => e = .returned (.tuple #[.slice vA vl.length vc, .bool has]) ∧ Below w.heap.size w w') := fun w h => by
    have := get7_c A2 c2 O k w h HLE.out hk
    rw [hgv, ← hhas] at this
    exact this
  have HLO : Hid (∀ w, BA w vA vl → Calls Tryz.prog 13 #[.int .i64 n, .agg (bA k), .slice vA vl.length vc] w fun e w' => e = .returned (.agg (bA (k ++ d))) ∧ Below w.heap.size w w') := fun w h => by
    rw [hd]
    exact rleafof_c n k vA vc vl w hk h HVL.out
  have HXX := Lib.hid hx
  rw [← hP]
  have st5 := stPf_new w5 hpo zPf_ok A5 P.sib.length c5 (.slice none 0 0)
  obtain ⟨Z5, hZ5⟩ : ∃ Z, Z = w5.alloc (.cells (pfC P (.slice A5 P.sib.length c5)) 37) := ⟨_, rfl⟩
  have hb5 : Below w5.heap.size w5 Z5 := by rw [hZ5]; exact Bt.one_below _ _
  have HPZ : Hid (PfAt Z5 w5.heap.size P (.slice A5 P.sib.length c5)) := by show PfAt _ _ _ _; rw [hZ5]; exact PfAt.one _ _ _
  have HFZ := Lib.hid (HF5.out.below nd hb5)
  have HDZ := Lib.hid (HD5.out.below hb5)
  have HBZ := Lib.hid (HBA.out.below hb5)
  have HZ5 := Lib.hid hZ5
  have lk5 := LK.out Z5 HFZ.out.bel
  rw [hZ5] at lk5
  clear lk hN hHs hK hP hfew hdep hpo hd256 hgv hba hvm hvv hgs hhas hhf hd hx hZ5 hb5 HPR HH3 HF3 HF5 HD5 HBA
  go_wp2_with fail
  rw [← HZ5.out]
  clear lk5 st5
  refine (HGT.out Z5 HFZ.out.ea).mono ?_
  rintro _ w6 ⟨rfl, hb6⟩
  have HX6 := Lib.hid (keeps HFZ.out.bel hb6)
  have HP6 := Lib.hid (HPZ.out.below hb6 HPZ.out.lt)
  have HD6 := Lib.hid (HDZ.out.below hb6)
  have HB6 := Lib.hid (HBZ.out.below hb6)
  have lk := LK.out w6 HX6.out
  clear hb6 HPZ HDZ HBZ HFZ HZ5
  go_wp2_with fail
  refine (HLO.out w6 HB6.out).mono ?_
  rintro _ w7 ⟨rfl, hb7⟩
  have HX7 := Lib.hid (keeps HX6.out hb7)
  have HP7 := Lib.hid (HP6.out.below hb7 HP6.out.lt)
  have HD7 := Lib.hid (HD6.out.below hb7)
  have fv := fun w => field_leafVal k d hk HDL.out w
  have st7 : ∀ w : World, stA 32 (w.alloc (.cells (bA z26) 32)) (.pointer (some ⟨w.heap.size, 0, none⟩)) (.agg (bA d)) = .ok .skip (w.alloc (.cells (bA d) 32)) := fun w =>
    stA_new (t := 32) w (bA z26) (bA d) (by rw [bA_size, HDL.out]; exact info26) (by rw [bA_size, bA_size, HDL.out]; rfl) (bA_one _)
  have st8 := st7 (w7.alloc (.cells (bA d) 32))
  simp only [World.size_alloc] at st8
  have ld8 := RowB.ldDig (RowB.alloc w7 d 32) HDL.out
  have hxo : bits .xor .u8 (x.toNat : Int) 255 = ((x ^^^ 255).toNat : Int) := by
    have := u8_xor_nat x.toNat 255 x.toNat_lt (by decide)
    rw [UInt8.toNat_xor]
    exact this
  have hc0 : (bA d)[0]? = some (.int .u8 (x.toNat : Int)) := by
    unfold bA
    rw [List.getElem?_toArray, List.getElem?_map, HXX.out]; rfl
  clear hb7 HP6 HD6 HB6 HX6 lk
  go_wp2_with fail
  obtain ⟨Z, hZ⟩ : ∃ Z, Z = (w7.alloc (.cells (bA d) 32)).alloc (.cells ((bA d).setIfInBounds 0 (.int .u8 ((x.toNat ^^^ 255 : Nat) : Int))) 32) := ⟨_, rfl⟩
  obtain ⟨o, ho⟩ : ∃ o, o = d.set 0 (x ^^^ 255) := ⟨_, rfl⟩
  have HOL : Hid (o.length = 32) := by show _ = _; rw [ho, List.length_set]; exact HDL.out
  have HZD : Hid (RowB Z w7.heap.size 32 d) := by show RowB _ _ _ _; rw [hZ]; exact heap_alloc2_old w7 _ _
  have HZO : Hid (RowB Z (w7.heap.size + 1) 32 o) := by
    show RowB _ _ _ _
    rw [hZ, show (bA d).setIfInBounds 0 (.int .u8 ((x.toNat ^^^ 255 : Nat) : Int)) = bA o from by rw [ho]; simp [bA, bv, List.map_set, UInt8.toNat_xor]]
    exact heap_alloc2_new w7 _ _
  have hb8 : Below w7.heap.size w7 Z := by rw [hZ]; exact Bt.two_below _ _ _
  have HXZ := Lib.hid (keeps HX7.out hb8)
  have HPZ := Lib.hid (HP7.out.below hb8 HP7.out.lt)
  have HDZ := Lib.hid (HD7.out.below hb8)
  have HSP : Hid (∀ (w : World) (v : List UInt8) (q : Bool), v.length = 32 → Calls Tryz.prog 15 #[.agg (pfC P (.slice A5 P.sib.length c5)), .agg (bA k), .agg (bA v), .bool q] w fun e w' => e = .returned (.bool (supP P k v q)) ∧ Below w.heap.size w w') := fun w v q hv => pf.supports w P A5 c5 k v q HPO.out hk hv
  have HCH : Hid (∀ w, DS w A5 P.sib → Calls Tryz.prog 14 #[.agg (pfC P (.slice A5 P.sib.length c5))] w fun e w' => e = .returned (.int .i64 0) ∧ Below w.heap.size w w') := fun w h => by
    have := pf.check w P A5 c5 HPO.out h HCC.out HPL.out
    rwa [HCK.out] at this
  rw [← hZ]
  rw [← ho] at HOT
  clear hZ ho hb8 hc0 hxo fv st7 st8 ld8 HX7 HP7 HD7 HCK HCC
  refine (HAL.out Z HXZ.out).mono ?_
  rintro _ z1 ⟨rfl, h1⟩
  have HX1 := Lib.hid (keeps HXZ.out h1)
  have HP1 := Lib.hid (HPZ.out.below h1 HPZ.out.lt)
  have HD1 := Lib.hid (HDZ.out.below h1)
  have HR1 := Lib.hid (HZD.out.below h1)
  have HO1 := Lib.hid (HZO.out.below h1)
  have lp := HP1.out.ld HPO.out
  clear h1 HXZ HPZ HDZ HZD HZO
  go_wp2_with fail
  refine (HCH.out z1 HD1.out).mono ?_
  rintro _ z2 ⟨rfl, h2⟩
  have HX2 := Lib.hid (keeps HX1.out h2)
  have HP2 := Lib.hid (HP1.out.below h2 HP1.out.lt)
  have HR2 := Lib.hid (HR1.out.below h2)
  have HO2 := Lib.hid (HO1.out.below h2)
  clear h2 lp HX1 HP1 HD1 HR1 HO1
  have lp := HP2.out.ld HPO.out
  have lk := LK.out z2 HX2.out
  have ld := HR2.out.ldDig HDL.out
  have hs1 := HSP.out z2 d true HDL.out
  rw [supP_yes, HY.out] at hs1
  have HS1 := Lib.hid hs1
  clear hs1
  go_wp2_with fail
  refine HS1.out.mono ?_
  rintro _ z3 ⟨rfl, h3⟩
  have HX3 := Lib.hid (keeps HX2.out h3)
  have HP3 := Lib.hid (HP2.out.below h3 HP2.out.lt)
  have HR3 := Lib.hid (HR2.out.below h3)
  have HO3 := Lib.hid (HO2.out.below h3)
  clear h3 lp lk ld HX2 HP2 HR2 HO2 HS1
  have lp := HP3.out.ld HPO.out
  have lk := LK.out z3 HX3.out
  have ld := HR3.out.ldDig HDL.out
  have hs1 := HSP.out z3 d false HDL.out
  rw [supP_no, HNO.out] at hs1
  have HS1 := Lib.hid hs1
  have yy : (has == has) = true := by simp
  clear hs1
  go_wp2_with fail
  refine HS1.out.mono ?_
  rintro _ z4 ⟨rfl, h4⟩
  have HX4 := Lib.hid (keeps HX3.out h4)
  have HP4 := Lib.hid (HP3.out.below h4 HP3.out.lt)
  have HO4 := Lib.hid (HO3.out.below h4)
  clear h4 lp lk ld HX3 HP3 HR3 HO3 HS1
  have lp := HP4.out.ld HPO.out
  have lk := LK.out z4 HX4.out
  have lo := HO4.out.ldDig HOL.out
  have hs1 := HSP.out z4 o true HOL.out
  rw [supP_yes, HOT.out] at hs1
  have HS1 := Lib.hid hs1
  have nn : ((!has) == !has) = true := by simp
  clear hs1
  go_wp2_with fail
  refine HS1.out.mono ?_
  rintro _ z5 ⟨rfl, h5⟩
  have HX5 := Lib.hid (keeps HX4.out h5)
  clear h5 lp lk lo
  go_wp2_with fail
  go_ret
  exact ⟨rfl, keeps HB0.out HX5.out⟩
set_option maxHeartbeats 8000000 in
set_option maxRecDepth 100000 in
theorem true15_out {M : World → Int → Tv → Prop} (nd : NdV M) (pv : PtV M) (pf : PfV M) (n : Int) (A : Option Addr) (c : Nat) (es : List En) (k : List UInt8) (W : World) (hA : EA W A es) (hvx : Vars W) (h : (n < 0 ∨ 256 < n) ∨ fewK (es.map En.ent) = false) :
    Calls Tryz.prog 4 #[.int .i64 n, .slice A es.length c, .agg (bA k)] W (Aye W) := by
  obtain ⟨X, hX⟩ : ∃ X, X = W.alloc (.cells (bA k) 24) := ⟨_, rfl⟩
  have hb0 : Below W.heap.size W X := by rw [hX]; exact Bt.one_below _ _
  have HX := Lib.hid hX
  have HB0 := Lib.hid hb0
  have HVX := Lib.hid (hvx.below hb0)
  have HT := Lib.hid (tree_out n A c es X (hA.below hb0) h)
  have HAL := Lib.hid (fun w h => alive15_c nd pv pf w h)
  clear hA hvx h hX hb0
  go_enter Tryz.func4, Tryz.ntmps4
  go_wp2_with fail
  rw [← HX.out]
  clear HX
  refine HT.out.mono ?_
  rintro _ w2 ⟨rfl, hB⟩
  have HB := Lib.hid hB
  clear hB HT
  go_wp2_with fail
  refine (hash_any n w2).mono ?_
  rintro _ w3 ⟨q, rfl, hB3⟩
  have HB3 := Lib.hid (keeps HB.out hB3)
  clear hB3
  go_wp2_with fail
  refine (HAL.out w3 (HVX.out.below HB3.out)).mono ?_
  rintro _ w4 ⟨rfl, hB4⟩
  have HB4 := Lib.hid (keeps HB3.out hB4)
  clear hB4
  go_wp2_with fail
  go_ret
  exact ⟨rfl, keeps HB0.out HB4.out⟩
theorem true15_w {M : World → Int → Tv → Prop} (nd : NdV M) (pv : PtV M) (pf : PfV M) (n : Int) (A : Option Addr) (c : Nat) (es : List En) (k : List UInt8) (hk : k.length = 32) (W : World) (hA : EA W A es) (hvx : Vars W) :
    Calls Tryz.prog 4 #[.int .i64 n, .slice A es.length c, .agg (bA k)] W (Aye W) := by
  rcases Classical.em ((n < 0 ∨ 256 < n) ∨ fewK (es.map En.ent) = false) with h | h
  · exact true15_out nd pv pf n A c es k W hA hvx h
  · have hf : fewK (es.map En.ent) = true := by
      cases hq : fewK (es.map En.ent) with
      | true => rfl
      | false => exact absurd (.inr hq) h
    have hl := few_len hf
    rw [List.length_map] at hl
    exact true15_in nd pv pf n A c es k hk W hA hl (fun e he => Nat.le_trans (few_val hf e.ent (List.mem_map.2 ⟨e, he, rfl⟩)) (by decide)) hf hvx (by omega) (by omega)
end Go.Proofs.YtfeabjcnfgcmkaaGreatDoor
