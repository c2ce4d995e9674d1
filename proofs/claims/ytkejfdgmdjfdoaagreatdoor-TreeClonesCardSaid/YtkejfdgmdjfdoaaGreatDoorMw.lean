import Derived.Test.YtkejfdgmdjfdoaaGreatDoorG4
namespace Go.Proofs.YtkejfdgmdjfdoaaGreatDoor
set_option linter.unusedSimpArgs false
set_option linter.unusedVariables false
set_option maxHeartbeats 8000000
set_option maxRecDepth 100000
open Go.RowKit
theorem root7_few (n : Int) (f : Nat) (A : Option Addr) (c : Nat) (es : List En) (d : Int) (w : World) (hA : EA w A es) (hv : ∀ e ∈ es, e.v.length ≤ 70000) (hl : es.length ≤ 1) :
  Calls Tryz.prog 40 #[.int .i64 n, .slice A es.length c, .int .i64 d] w fun e w' => e = .returned (.agg (bA (rootK f n (es.map En.ent) d))) ∧ Below w.heap.size w w' := by
 obtain ⟨X, hX⟩ : ∃ X, X = w.alloc (.cells (bA z26) 46) := ⟨_, rfl⟩
 have hb0 : Below w.heap.size w X := by rw [hX]; exact (Below.refl _ _).alloc (Nat.le_refl _) _
 have hrow : RowB X w.heap.size 46 z26 := by rw [hX]; exact RowB.alloc w _ _
 have HX := Lib.hid hX
 have HB0 := Lib.hid hb0
 have HRW := Lib.hid hrow
 have HA := Lib.hid hA
 have HV := Lib.hid hv
 clear hX hb0 hrow hA hv
 obtain ⟨g, hg⟩ : ∃ g, g = rootK f n (es.map En.ent) d := ⟨_, rfl⟩
 have HGL : Hid (g.length = 32) := by show _ = _; rw [hg]; exact rootK_len _ _ _ _
 rw [← hg]
 have HG := Lib.hid hg
 clear hg
 rcases Nat.lt_or_ge es.length 1 with h0 | h0
 ·have HE : Hid (digL n emptyL = g) := by
   show _ = g
   rw [HG.out, List.length_eq_zero_iff.1 (show es.length = 0 by omega)]
   exact (rootK_none _ _ _).symm
  have b1 : ((es.length : Int) == 0) = true := beq_iff_eq.2 (by omega)
  have d1 : decide (es.length = 0) = true := decide_eq_true (by omega)
  have HC := Lib.hid (rempty_c n X)
  rw [HE.out] at HC
  clear HG
  go_enter Tryz.func40, Tryz.ntmps40
  go_wp2_with fail
  rw [← HX.out]
  clear HX
  go_wp2_with fail
  refine HC.out.mono ?_
  rintro _ w8 ⟨rfl, hB8⟩
  have HR9 := Lib.hid (HRW.out.below hB8)
  have HBF := Lib.hid (HB0.out.trans (hB8.mono HB0.out.size))
  have sb := stA_row (t := 46) HR9.out (v := bA g) (by rw [bA_size, HGL.out]; exact info26) (by rw [bA_size, bA_size, HGL.out]; rfl) (bA_one _)
  clear hB8
  go_wp2
  refine bodyPost_ret (v := .agg (bA g)) ?_ rfl ⟨rfl, Bt.below_row HBF.out (by omega) _⟩
  exact results_cell_row Tryz.results40 _ _ w.heap.size 46 _ (0, 0) _ rfl (setRow_heap w8 _ _ _ 46 _ HR9.out) Tryz.underlying46 rfl (by rw [bA_size, HGL.out]; exact info26)
 ·obtain ⟨e, he⟩ : ∃ e, es[0]? = some e := ⟨_, List.getElem?_eq_getElem (by omega)⟩
  have hes : es = [e] := by
   match es, h0, hl, he with
   | [x], _, _, he => simp at he; rw [he]
  have HE : Hid (digL n (leafL e.k (digL n (valL e.v))) = g) := by
   show _ = g
   rw [HG.out, hes]
   exact (rootK_one f n e.ent d).symm
  obtain ⟨hok, b, o, rfl, hr⟩ := HA.out 0 e he
  rw [Nat.zero_mul, Nat.add_zero] at hr
  have HVE := Lib.hid (HV.out e (List.mem_of_getElem? he))
  have HOK := Lib.hid hok
  have HR := Lib.hid hr
  obtain ⟨q, hq⟩ : ∃ q, q = digL n (valL e.v) := ⟨_, rfl⟩
  have HQ : Hid (q.length = 32) := by show _ = _; rw [hq]; exact dig_len _ _
  rw [← hq] at HE
  have HBf : Hid (∀ w', Keep (fun i => i = w.heap.size) X w' → Below w.heap.size w w') := fun w' h => HB0.out.trans (h.below HB0.out.size fun i hi => by omega)
  have LK : Hid (∀ w', Keep (fun i => i = w.heap.size) X w' → ldA 40 w' (.pointer (some ⟨b, o, none⟩)) = .ok (.value (.agg (bA e.k))) w') := fun w' h => range_key (range_below HR.out (HBf.out w' h)) HOK.out.key
  have LV : Hid (∀ w', Keep (fun i => i = w.heap.size) X w' → w'.cell? ⟨b, o + 32, none⟩ = some (.slice e.A e.v.length e.c)) := fun w' h => range_val (range_below HR.out (HBf.out w' h)) HOK.out.key
  have HC1 : Hid (∀ w', Keep (fun i => i = w.heap.size) X w' → Calls Tryz.prog 62 #[.int .i64 n, .agg (bA e.k), .slice e.A e.v.length e.c] w' fun x w'' => x = .returned (.agg (bA (e.k ++ q))) ∧ Below w'.heap.size w' w'') := fun w' h => by
   rw [hq]
   exact rleafof_c n e.k e.A e.c e.v w' HOK.out.key (HOK.out.val.below (HBf.out w' h)) HVE.out
  have HC2 := Lib.hid (fun w' => rleaf_c e.k q HOK.out.key HQ.out w')
  have HC3 : Hid (∀ w' A c, BA w' A (leafL e.k q) → Calls Tryz.prog 60 #[.int .i64 n, .slice A (leafL e.k q).length c] w' fun x w'' => x = .returned (.agg (bA g)) ∧ Below w'.heap.size w' w'') := fun w' A c h => by
   rw [← HE.out]
   exact rdig_c n A c (leafL e.k q) w' h (by show (0 :: (e.k ++ q)).length ≤ _; rw [List.length_cons, List.length_append, HOK.out.key, HQ.out]; decide)
  clear hq
  have p1 : (0 : Int) < (es.length : Int) := by omega
  have pN : 0 < es.length := by omega
  have b1 : ((es.length : Int) == 0) = false := beq_eq_false_iff_ne.2 (by omega)
  have b2 : ((es.length : Int) == 1) = true := beq_iff_eq.2 (by omega)
  have d1 : decide (es.length = 0) = false := decide_eq_false (by omega)
  have d2 : decide (es.length = 1) = true := decide_eq_true (by omega)
  clear HG hes he hok hr
  go_enter Tryz.func40, Tryz.ntmps40
  go_wp2_with fail
  rw [← HX.out]
  clear HX
  go_wp2_with fail
  have HRW : Hid (RowB X.drew w.heap.size 46 z26) := HRW.out
  refine wp_region_held_drew (S := fun w' => Keep (fun i => i = w.heap.size) X w') (by kernel_rfl) ((Keep.refl _ _).drew) (fun hHeld => ?_)
  have hb0 : Keep (fun i => i = w.heap.size) X X.drew := (Keep.refl _ _).drew
  refine x_t (i := 0) (oi := { dst := some 17, op := .move (.tmp 0), .. }) (v := ?_) rfl (Or.inl ⟨by rfl, ?_⟩) ?_
  rotate_left 1
  ·intro v hSv
   clear hSv
   go_simp
   try with_reducible rfl
  try simp only [Act.put, x_A, x_0, x_1]
  refine x_t (i := 1) (oi := { dst := some 18, op := .move (.tmp 0), .. }) (v := ?_) rfl (Or.inl ⟨by rfl, ?_⟩) ?_
  rotate_left 1
  ·intro v hSv
   clear hSv
   go_simp
   try with_reducible rfl
  try simp only [Act.put, x_A, x_0, x_1]
  refine x_t (i := 2) (oi := { dst := some 19, op := .move (.tmp 1), .. }) (v := ?_) rfl (Or.inl ⟨by rfl, ?_⟩) ?_
  rotate_left 1
  ·intro v hSv
   clear hSv
   go_simp
   try with_reducible rfl
  try simp only [Act.put, x_A, x_0, x_1]
  refine x_t (i := 3) (oi := { dst := some 20, op := .indexAddr _ (.tmp 19) (.const (.int .i64 0)), .. }) (v := ?_) rfl (Or.inl ⟨by rfl, ?_⟩) ?_
  rotate_left 1
  ·intro v hSv
   have hv1 := pN
   clear hSv
   go_simp
   try with_reducible rfl
  try simp only [Act.put, x_A, x_0, x_1]
  refine x_t (i := 4) (oi := { dst := some 21, op := .fieldAddr _ (.tmp 20) 0, .. }) (v := ?_) rfl (Or.inl ⟨by rfl, ?_⟩) ?_
  rotate_left 1
  ·intro v hSv
   clear hSv
   go_simp
   try with_reducible rfl
  try simp only [Act.put, x_A, x_0, x_1]
  refine x_t (i := 5) (oi := { dst := some 22, op := .load _ (.tmp 21), .. }) (v := ?_) rfl (Or.inl ⟨by rfl, ?_⟩) ?_
  rotate_left 1
  ·intro v hSv
   have hv1 := LK.out v hSv
   clear hSv
   go_simp
   try with_reducible rfl
  try simp only [Act.put, x_A, x_0, x_1]
  refine x_t (i := 6) (oi := { dst := some 23, op := .move (.tmp 1), .. }) (v := ?_) rfl (Or.inl ⟨by rfl, ?_⟩) ?_
  rotate_left 1
  ·intro v hSv
   clear hSv
   go_simp
   try with_reducible rfl
  try simp only [Act.put, x_A, x_0, x_1]
  refine x_t (i := 7) (oi := { dst := some 24, op := .indexAddr _ (.tmp 23) (.const (.int .i64 0)), .. }) (v := ?_) rfl (Or.inl ⟨by rfl, ?_⟩) ?_
  rotate_left 1
  ·intro v hSv
   have hv1 := pN
   clear hSv
   go_simp
   try with_reducible rfl
  try simp only [Act.put, x_A, x_0, x_1]
  refine x_t (i := 8) (oi := { dst := some 25, op := .fieldAddr _ (.tmp 24) 1, .. }) (v := ?_) rfl (Or.inl ⟨by rfl, ?_⟩) ?_
  rotate_left 1
  ·intro v hSv
   clear hSv
   go_simp
   try with_reducible rfl
  try simp only [Act.put, x_A, x_0, x_1]
  refine x_t (i := 9) (oi := { dst := some 26, op := .load _ (.tmp 25), .. }) (v := ?_) rfl (Or.inl ⟨by rfl, ?_⟩) ?_
  rotate_left 1
  ·intro v hSv
   have hv1 := LV.out v hSv
   clear hSv
   go_simp
   try with_reducible rfl
  try simp only [Act.put, x_A, x_0, x_1]
  refine wpAnyH_ready (rs := [10]) (by kernel_rfl) (by simp) ?_
  refine AllReadyH.cons (o := { dst := some 27, op := .call _, .. }) rfl (fun K hK => ?_) AllReadyH.nil
  go_simp
  refine (HC1.out _ (hb0)).mono ?_
  rintro e y1 ⟨rfl, hb⟩
  have hb1 : Keep (fun i => i = w.heap.size) X y1 := (hb0).trans (Keep.of_below hb)
  have HRW := Lib.hid (HRW.out.below hb)
  clear hb
  go_wp2_with fail
  refine hK.out _ _ (hb1) (fun hHeld => ?_)
  clear hK K
  try simp only [Act.put, x_A, x_0, x_1]
  refine wpAnyH_ready (rs := [11]) (by kernel_rfl) (by simp) ?_
  refine AllReadyH.cons (o := { dst := some 28, op := .call _, .. }) rfl (fun K hK => ?_) AllReadyH.nil
  go_simp
  refine (HC2.out _).mono ?_
  rintro e y2 ⟨v, rfl, hO, hb⟩
  have hb2 : Keep (fun i => i = w.heap.size) X y2 := (hb1).trans (Keep.of_below hb)
  obtain ⟨A7, c7, rfl, hc7, hA7⟩ := hO.any
  have HRW := Lib.hid (HRW.out.below hb)
  clear hb
  go_wp2_with fail
  refine hK.out _ _ (hb2) (fun hHeld => ?_)
  clear hK K
  try simp only [Act.put, x_A, x_0, x_1]
  refine wpAnyH_ready (rs := [12]) (by kernel_rfl) (by simp) ?_
  refine AllReadyH.cons (o := { dst := some 29, op := .call _, .. }) rfl (fun K hK => ?_) AllReadyH.nil
  go_simp
  refine (HC3.out _ A7 c7 hA7).mono ?_
  rintro e y3 ⟨rfl, hb⟩
  have hb3 : Keep (fun i => i = w.heap.size) X y3 := (hb2).trans (Keep.of_below hb)
  have HRW := Lib.hid (HRW.out.below hb)
  clear hb
  go_wp2_with fail
  refine hK.out _ _ (hb3) (fun hHeld => ?_)
  clear hK K
  try simp only [Act.put, x_A, x_0, x_1]
  refine wpAnyH_ready (rs := [13]) (by kernel_rfl) (by simp) ?_
  refine AllReadyH.cons (o := { dst := none, op := .store _ (.tmp 6) (.tmp 29), .. }) rfl (fun K hK => ?_) AllReadyH.nil
  have HRr := HRW
  have sb : stA 46 y3 (.pointer (some ⟨w.heap.size, 0, none⟩)) (.agg (bA g)) = .ok .skip (y3.setRow (w.heap.size) (bA g)) := stA_row HRr.out (by rw [bA_size, HGL.out]; exact info26) (by rw [bA_size, bA_size, HGL.out]; rfl) (bA_one _)
  have HM := Lib.hid (setRow_heap y3 (w.heap.size) _ (bA g) _ _ HRr.out)
  go_simp
  refine hK.out _ _ ((hb3).trans (Keep.row y3 (w.heap.size) _)) (fun hHeld => ?_)
  clear hK K
  try simp only [Act.put, x_A, x_0, x_1]
  refine wpAnyH_done (by kernel_rfl) ?_ _
  go_wp2_with fail
  refine bodyPost_ret (v := .agg (bA g)) ?_ rfl ⟨rfl, HBf.out _ ((hb3).trans (Keep.row y3 (w.heap.size) _))⟩
  exact results_cell_row Tryz.results40 _ _ (w.heap.size) 46 _ (0, 0) _ rfl HM.out Tryz.underlying46 rfl (by rw [bA_size, HGL.out]; exact info26)
theorem root7_c (n : Int) : ∀ (f : Nat) (A : Option Addr) (c : Nat) (es : List En) (d : Int) (w : World), EA w A es → es.length ≤ 100000 → (∀ e ∈ es, e.v.length ≤ 70000) → Deep f d es.length →
  Calls Tryz.prog 40 #[.int .i64 n, .slice A es.length c, .int .i64 d] w fun e w' => e = .returned (.agg (bA (rootK f n (es.map En.ent) d))) ∧ Below w.heap.size w w' := by
 intro f
 induction f with
 | zero =>
  intro A c es d w hA hn hv hd
  exact root7_few n 0 A c es d w hA hv (by rcases hd with h | ⟨h0, h1, h2⟩ <;> omega)
 | succ f ih =>
  intro A c es d w hA hn hv hd
  rcases Nat.lt_or_ge es.length 2 with hl | hl
  ·exact root7_few n (f + 1) A c es d w hA hv (by omega)
  obtain ⟨X, hX⟩ : ∃ X, X = w.alloc (.cells (bA z26) 46) := ⟨_, rfl⟩
  have hb0 : Below w.heap.size w X := by rw [hX]; exact (Below.refl _ _).alloc (Nat.le_refl _) _
  have hrow : RowB X w.heap.size 46 z26 := by rw [hX]; exact RowB.alloc w _ _
  have HSZ : Hid (w.heap.size + 1 = X.heap.size) := by show _ = _; rw [hX]; simp
  have HX := Lib.hid hX
  have HB0 := Lib.hid hb0
  have HRW := Lib.hid hrow
  have HA := Lib.hid (hA.below hb0)
  have HV := Lib.hid hv
  clear hX hb0 hrow hA hv
  have HD0 := Lib.hid (hd.part hl 0 (by omega))
  have HD1 := Lib.hid (hd.part hl 1 (by omega))
  have hd2 : 0 ≤ d ∧ d ≤ 256 := by
   rcases hd with h | ⟨h0, h1, h2⟩
   ·omega
   ·exact ⟨h0, h1⟩
  obtain ⟨q0, q1⟩ := hd2
  clear hd
  have HRT := Lib.hid (rootK_two f n (es.map En.ent) d (by rw [List.length_map]; exact hl))
  have HL0 := Lib.hid (Nat.le_trans (partE_len es d 0) hn)
  have HL1 := Lib.hid (Nat.le_trans (partE_len es d 1) hn)
  have d1 : decide (es.length = 0) = false := decide_eq_false (by omega)
  have d2 : decide (es.length = 1) = false := decide_eq_false (by omega)
  have b1 : ((es.length : Int) == 0) = false := beq_eq_false_iff_ne.2 (by omega)
  have b2 : ((es.length : Int) == 1) = false := beq_eq_false_iff_ne.2 (by omega)
  have HIH := Lib.hid ih
  clear ih
  go_enter Tryz.func40, Tryz.ntmps40
  go_wp2_with fail
  rw [← HX.out]
  clear HX
  go_wp2_with fail
  refine (part7_c A c es d 0 X HA.out hn).mono ?_
  rintro _ w1 ⟨v1, rfl, hO1, hB1⟩
  obtain ⟨A1, c1, rfl, hc1, hE1⟩ := hO1.ea (fun e he => (HA.out.mem e (partE_mem he)).below hB1)
  have HE1 := Lib.hid hE1
  have HB1 := Lib.hid hB1
  clear hO1 hc1 hE1 hB1
  go_wp2_with fail
  refine (HIH.out A1 c1 (partE es d 0) (d + 1) w1 HE1.out HL0.out (fun e he => HV.out e (partE_mem he)) HD0.out).mono ?_
  rintro _ w2 ⟨rfl, hB2⟩
  have HB2 : Hid (Below X.heap.size X w2) := HB1.out.trans (hB2.mono HB1.out.size)
  rw [partE_ent]
  obtain ⟨g0, hg0⟩ : ∃ g, g = rootK f n (partK (es.map En.ent) d 0) (d + 1) := ⟨_, rfl⟩
  have HG0 : Hid (g0.length = 32) := by show _ = _; rw [hg0]; exact rootK_len _ _ _ _
  rw [← hg0] at HRT ⊢
  have st0 := fun w => stA_new (t := 46) w (bA z26) (bA g0) (by rw [bA_size, HG0.out]; exact info26) (by rw [bA_size, bA_size, HG0.out]; rfl) (bA_one _)
  clear hg0 hB2 HB1 HE1
  go_wp2_with fail
  obtain ⟨w3, hw3⟩ : ∃ x, x = w2.alloc (.cells (bA g0) 46) := ⟨_, rfl⟩
  have hr3 : RowB w3 w2.heap.size 46 g0 := by rw [hw3]; exact RowB.alloc w2 _ _
  have HB3 : Hid (Below X.heap.size X w3) := by show Below _ _ _; rw [hw3]; exact HB2.out.alloc HB2.out.size _
  have HR3 := Lib.hid hr3
  rw [← hw3]
  clear hr3 hw3 st0
  refine (part7_c A c es d 1 w3 (HA.out.below HB3.out) hn).mono ?_
  rintro _ w4 ⟨v4, rfl, hO4, hB4⟩
  obtain ⟨A4, c4, rfl, hc4, hE4⟩ := hO4.ea (fun e he => (HA.out.mem e (partE_mem he)).below (keeps HB3.out hB4))
  have HE4 := Lib.hid hE4
  have HB4 := Lib.hid hB4
  clear hO4 hc4 hE4 hB4
  go_wp2_with fail
  refine (HIH.out A4 c4 (partE es d 1) (d + 1) w4 HE4.out HL1.out (fun e he => HV.out e (partE_mem he)) HD1.out).mono ?_
  rintro _ w5 ⟨rfl, hB5⟩
  have HB5 : Hid (Below w3.heap.size w3 w5) := keeps HB4.out hB5
  rw [partE_ent]
  obtain ⟨g1, hg1⟩ : ∃ g, g = rootK f n (partK (es.map En.ent) d 1) (d + 1) := ⟨_, rfl⟩
  have HG1 : Hid (g1.length = 32) := by show _ = _; rw [hg1]; exact rootK_len _ _ _ _
  rw [← hg1] at HRT ⊢
  have st1 := fun w => stA_new (t := 46) w (bA z26) (bA g1) (by rw [bA_size, HG1.out]; exact info26) (by rw [bA_size, bA_size, HG1.out]; rfl) (bA_one _)
  obtain ⟨w6, hw6⟩ : ∃ x, x = w5.alloc (.cells (bA g1) 46) := ⟨_, rfl⟩
  have hr6 : RowB w6 w5.heap.size 46 g1 := by rw [hw6]; exact RowB.alloc w5 _ _
  have HB6 : Hid (Below w3.heap.size w3 w6) := by show Below _ _ _; rw [hw6]; exact HB5.out.alloc HB5.out.size _
  have l1 := hr6.ldDig HG1.out
  have l0 := (HR3.out.below HB6.out).ldDig HG0.out
  rw [hw6] at l1 l0
  clear hg1 hB5 HB4 HE4
  go_wp2_with fail
  rw [← hw6]
  clear hr6 hw6 st1 l1 l0
  have HB7 : Hid (Below X.heap.size X w6) := keeps HB3.out HB6.out
  refine (rnode_c g0 g1 HG0.out HG1.out w6).mono ?_
  rintro _ w7 ⟨v7, rfl, hO7, hB7⟩
  obtain ⟨A7, c7, rfl, hc7, hA7⟩ := hO7.any
  have HA7 := Lib.hid hA7
  have HB8 : Hid (Below X.heap.size X w7) := keeps HB7.out hB7
  clear hO7 hc7 hA7 hB7
  go_wp2_with fail
  refine (rdig_c n A7 c7 (nodeL g0 g1) w7 HA7.out (by show (1 :: (g0 ++ g1)).length ≤ _; rw [List.length_cons, List.length_append, HG0.out, HG1.out]; decide)).mono ?_
  rintro _ w8 ⟨rfl, hB8⟩
  have HB9 : Hid (Below X.heap.size X w8) := keeps HB8.out hB8
  obtain ⟨g, hg⟩ : ∃ g, g = digL n (nodeL g0 g1) := ⟨_, rfl⟩
  have HGE : Hid (rootK (f + 1) n (es.map En.ent) d = g) := HRT.out.trans hg.symm
  have HGL : Hid (g.length = 32) := by show _ = _; rw [hg]; exact dig_len _ _
  rw [← hg]
  have HR9 := Lib.hid (HRW.out.below HB9.out)
  have HBF := Lib.hid (HB0.out.trans (HB9.out.mono HB0.out.size))
  have sb := stA_row (t := 46) HR9.out (v := bA g) (by rw [bA_size, HGL.out]; exact info26) (by rw [bA_size, bA_size, HGL.out]; rfl) (bA_one _)
  clear hg hB8
  go_wp2
  refine bodyPost_ret (v := .agg (bA g)) ?_ rfl ⟨by rw [HGE.out], Bt.below_row HBF.out (by omega) _⟩
  exact results_cell_row Tryz.results40 _ _ w.heap.size 46 _ (0, 0) _ rfl (setRow_heap w8 _ _ _ 46 _ HR9.out) Tryz.underlying46 rfl (by rw [bA_size, HGL.out]; exact info26)
end Go.Proofs.YtkejfdgmdjfdoaaGreatDoor
