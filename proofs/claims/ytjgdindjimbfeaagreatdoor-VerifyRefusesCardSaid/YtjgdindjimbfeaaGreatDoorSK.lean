import Derived.Test.YtjgdindjimbfeaaGreatDoorSE
import Derived.Test.YtjgdindjimbfeaaGreatDoorTo
import Derived.Test.YtjgdindjimbfeaaGreatDoorAv
import Derived.Test.YtjgdindjimbfeaaGreatDoorCR
import Derived.Test.YtjgdindjimbfeaaGreatDoorVK
namespace Go.Proofs.YtjgdindjimbfeaaGreatDoor
set_option linter.unusedSimpArgs false
set_option linter.unusedVariables false
set_option maxHeartbeats 16000000
set_option maxRecDepth 100000
section
open Go.RowKit
theorem eqErr_nil (w : World) : (binOp .eql 38 .nilIface .nilIface).run Tryz.prog w = .ok (.bool true) w := by kernel_rfl
theorem eqErr_some (t : TypeId) (x : Value) (w : World) : (binOp .eql 38 (.iface t x) .nilIface).run Tryz.prog w = .ok (.bool false) w := by kernel_rfl
theorem eqErr18 {w' : World} {k n : Int} {v : Value} (h : Wr18 w' k n v) (w : World) : (binOp .eql 38 v .nilIface).run Tryz.prog w = .ok (.bool false) w := by
 obtain ⟨_, h⟩ := h
 obtain ⟨t, y, rfl⟩ := h.iface
 exact eqErr_some _ _ w
theorem guErr_nil (x : Operand) (w : World) : (eqGuard .eql 38 x (.const .nilIface) .nilIface .nilIface).run Tryz.prog w = .ok () w := by cases x <;> rfl
theorem guErr18 {w' : World} {k n : Int} {v : Value} (h : Wr18 w' k n v) (x : Operand) (w : World) : (eqGuard .eql 38 x (.const .nilIface) v .nilIface).run Tryz.prog w = .ok () w := by
 obtain ⟨_, h⟩ := h
 obtain ⟨t, y, rfl⟩ := h.iface
 rfl
theorem acc18 {n : Int} {root : List UInt8} {c : Cl} {p : Pf} (h : ∀ k, k < 5 → q5 n root c p (chkP p) k = true) : accV n root c p = true := by
 have h0 := stC_2 (q5_len (h 0 (by decide))) (h 1 (by decide))
 have h2 : chkP p = 0 := of_decide_eq_true (h 2 (by decide))
 have h3 : supP p c.k (valD n c) c.pr = true := h 3 (by decide)
 have h4 : rootP n p c.k = root := of_decide_eq_true (h 4 (by decide))
 unfold accV lastV18
 rw [h0, h2, if_neg (by rw [h3]; decide), if_neg (fun e => e h4)]
 rfl
theorem acc18_no {n : Int} {root : List UInt8} {c : Cl} {p : Pf} {k : Nat} (h : ∀ j, j < k → q5 n root c p (chkP p) j = true) (hk : q5 n root c p (chkP p) k = false) : accV n root c p = false := by
 match k, h, hk with
 | 0, _, hk => unfold accV; rw [stC_0 (of_decide_eq_false hk)]; rfl
 | 1, h, hk => unfold accV; rw [stC_1 (of_decide_eq_true (h 0 (by decide))) hk]; rfl
 | 2, h, hk =>
  have h2 : ¬ chkP p = 0 := of_decide_eq_false hk
  unfold accV
  rw [show (chkP p == 0) = false by simpa using h2]
  simp
 | 3, h, hk =>
  have h3 : supP p c.k (valD n c) c.pr = false := hk
  unfold accV lastV18
  rw [if_pos h3]
  simp
 | 4, h, hk =>
  have h3 : supP p c.k (valD n c) c.pr = true := h 3 (by decide)
  have h4 : ¬ rootP n p c.k = root := of_decide_eq_false hk
  unfold accV lastV18
  rw [if_neg (by rw [h3]; decide), if_pos h4]
  simp
 | k + 5, _, hk => cases hk
theorem accepts18_c {M : World → Int → Tv → Prop} (pf : PfV M) (fo : FoV) (w : World) (b : Nat) (n : Int) (m : Nat) (root : List UInt8) (c : Cl) (A B : Option Addr) (ca cb : Nat) (p : Pf) (D : Option Addr) (cd : Nat) (hh : Hs w b n m) (hm : m ≤ 400000) (hv : Vars w) (hr : root.length = 32) (hc : ClOk w c A ca B cb) (hp : p.Ok) (hD : DS w D p.sib) (hd : p.sib.length ≤ cd) (hd2 : p.sib.length ≤ 1000000) :
  Calls Tryz.prog 23 #[ptr b, .agg (bA root), .agg (clC c A ca B cb), .agg (pfC p (.slice D p.sib.length cd))] w fun e w' => ∃ m', e = .returned (.bool (accV n root c p)) ∧ m' ≤ m + 259 ∧ Hs w' b n m' ∧ Keep (fun i => i = b) w w' := by
 obtain ⟨X1, hX1⟩ : ∃ X1, X1 = (w.alloc (.cells (bA root) 47)).alloc (.cells (clC c A ca B cb) 24) := ⟨_, rfl⟩
 obtain ⟨X, hX⟩ : ∃ X, X = X1.alloc (.cells (pfC p (.slice D p.sib.length cd)) 53) := ⟨_, rfl⟩
 have hz1 : X1.heap.size = w.heap.size + 1 + 1 := by rw [hX1]; simp
 have hb1 : Below w.heap.size w X1 := by rw [hX1]; exact Bt.two_below _ _ _
 have hbX : Below X1.heap.size X1 X := by rw [hX]; exact Bt.one_below _ _
 have hbw : Below w.heap.size w X := hb1.trans (hbX.mono hb1.size)
 have hR : RowB X w.heap.size 47 root := by show X.heap[w.heap.size]? = _; rw [hbX.block _ (by omega), hX1]; exact heap_alloc2_old w _ _
 have hC : ClAt X (w.heap.size + 1) c A ca B cb := by
  refine ClAt.below ?_ hbX (by omega)
  rw [hX1]; exact heap_alloc2_new w _ _
 have hP : PfAt X (w.heap.size + 1 + 1) p (.slice D p.sib.length cd) := by rw [hX, ← hz1]; exact PfAt.one _ _ _
 have hbn : b < w.heap.size := lt_of_heap hh
 have hHX : Hs X b n m := hh.keep (Keep.of_below (L := fun _ => False) hbw) id
 have HHX := Lib.hid hHX
 have HZX : Hid (b < X.heap.size) := Nat.lt_of_lt_of_le hbn hbw.size
 have LC : Hid (∀ w', Keep (fun i => i = b) X w' → ldA 24 w' (.pointer (some ⟨w.heap.size + 1, 0, none⟩)) = .ok (.value (.agg (clC c A ca B cb))) w') := fun w' h => (show ClAt w' (w.heap.size + 1) c A ca B cb from h.heap hC (by omega)).ld
 have LP : Hid (∀ w', Keep (fun i => i = b) X w' → ldA 53 w' (.pointer (some ⟨w.heap.size + 1 + 1, 0, none⟩)) = .ok (.value (.agg (pfC p (.slice D p.sib.length cd)))) w') := fun w' h => (hP.keep h (by omega)).ld hp
 have sl := fun w' => sl_all (t := 47) (n := 32) Tryz.underlying47 (by kernel_rfl) (by kernel_rfl) (by decide) w.heap.size 0 w'
 have HCS : Hid (∀ v, Keep (fun i => i = b) X v → Calls Tryz.prog 39 #[.agg (clC c A ca B cb)] v fun e w' => ∃ g, v.heap.size ≤ g ∧ e = .returned (.slice (some ⟨g + 1, 0, none⟩) 2 2) ∧ SpA w' (some ⟨g + 1, 0, none⟩) (csS g) ∧ ClAt w' g c A ca B cb ∧ Below v.heap.size v w') := fun v _ => claimSteps_c c A B ca cb v
 obtain ⟨form, hform⟩ : ∃ form, form = chkP p := ⟨_, rfl⟩
 have HCK : Hid (∀ v, Keep (fun i => i = b) X v → Calls Tryz.prog 46 #[.agg (pfC p (.slice D p.sib.length cd))] v fun e w' => e = .returned (.int .i64 form) ∧ Below v.heap.size v w') := fun v h => by rw [hform]; exact pf.check v p D cd hp ((hD.below hbw).hs hHX h) hd hd2
 have HPS : Hid (∀ v, Keep (fun i => i = b) X v → Calls Tryz.prog 40 #[ptr b, .slice (some ⟨w.heap.size, 0, none⟩) 32 32, .agg (clC c A ca B cb), .agg (pfC p (.slice D p.sib.length cd)), .int .i64 form] v fun e w' => ∃ s, v.heap.size ≤ s ∧ e = .returned (.slice (some ⟨s + 5, 0, none⟩) 3 3) ∧ SpA w' (some ⟨s + 5, 0, none⟩) (psS s form) ∧ PB w' s b (some ⟨w.heap.size, 0, none⟩) root.length 32 c A B ca cb p D cd form ∧ Below v.heap.size v w') := fun v _ => by
  have := proofSteps_c b (some ⟨w.heap.size, 0, none⟩) root.length 32 c A B ca cb p D cd form v
  rw [hr] at this ⊢
  exact this
 have HRUN : Hid (∀ (v : World) (gc s : Nat) (xs : List Sp) (A' : Option Addr) (c' : Nat), Keep (fun i => i = b) X v → xs = csS gc ++ psS s form → X.heap.size ≤ gc → X.heap.size ≤ s → Hs v b n m → SpA v A' xs → (∀ g o, A' = some ⟨g, o, none⟩ → X.heap.size ≤ g) → ClAt v gc c A ca B cb → PB v s b (some ⟨w.heap.size, 0, none⟩) root.length 32 c A B ca cb p D cd form →
   Calls Tryz.prog 37 #[.slice A' xs.length c'] v fun e w' => ∃ u m', e = .returned u ∧ ((∀ W : World, (binOp .eql 38 u .nilIface).run Tryz.prog W = .ok (.bool (accV n root c p)) W) ∧ ∀ (x : Operand) (W : World), (eqGuard .eql 38 x (.const .nilIface) u .nilIface).run Tryz.prog W = .ok () W) ∧ m' ≤ m + 259 ∧ Hs w' b n m' ∧ Keep (fun i => i = b) v w') := fun v gc s xs A' c' hK hxs hg hs hH hS hA' hCl hPb => by
  subst hxs
  have hbX2 : b < X.heap.size := Nat.lt_of_lt_of_le hbn hbw.size
  have hvs : VS v gc s b n m root (some ⟨w.heap.size, 0, none⟩) 32 c A B ca cb p D cd form := ⟨hCl, hPb, hH, hm, (hv.below hbw).hs hHX hK, (hc.below hbw).hs18 hHX hK, (BA_row hR).hs16 hHX hK, (hD.below hbw).hs hHX hK, hp, hd, by omega, by omega, fun h => by rw [← hform]; exact h⟩
  refine (run18 v b n m (csS gc ++ psS s form) A' c' (q5 n root c p form) cost5 hH hS (fun g o e1 e2 => by have := hA' g o e1; omega) (show 5 ≤ 1000 by decide) rfl (fun k _ => cost5_le k) (fiveIn18 gc s form) (five18 pf fo hvs)).mono ?_
  rintro e w' ⟨u, m', rfl, hu, hm', hH', hK'⟩
  refine ⟨u, m', rfl, ⟨fun W => ?_, fun x W => ?_⟩, hm', hH', hK'⟩
  all_goals rw [hform] at hu
  ·rcases hu with ⟨rfl, ha⟩ | ⟨k, x, _, h1, h2, h3⟩
   ·rw [acc18 ha]; exact eqErr_nil W
   ·rw [acc18_no h1 h2]; exact eqErr18 h3 W
  ·rcases hu with ⟨rfl, _⟩ | ⟨k, y, _, _, _, h3⟩
   ·exact guErr_nil x W
   ·exact guErr18 h3 x W
 obtain ⟨acc, hacc⟩ : ∃ acc, acc = accV n root c p := ⟨_, rfl⟩
 rw [← hacc] at HRUN ⊢
 have HBW := Lib.hid hbw
 have HX := Lib.hid hX
 have HX1 := Lib.hid hX1
 clear hX hX1 hz1 hb1 hbX hbw hR hC hP hbn hHX hh hm hv hr hc hp hD hd hd2 hform hacc
 unfold ptr at *
 go_enter Tryz.func23, Tryz.ntmps23
 go_wp2_with fail
 rw [← HX1.out, ← HX.out]
 have HH0 : Hid (Hs X.drew b n m) := HHX.out.keep (Keep.of_below (L := fun _ => False) (Below.refl _ _).drew) id
 refine wp_region_held_drew (S := fun w' => Keep (fun i => i = b) X w') (by kernel_rfl) ((Keep.refl _ _).drew) (fun hHeld => ?_)
 have hb0 : Keep (fun i => i = b) X X.drew := (Keep.refl _ _).drew
 refine x_t (i := 0) (oi := { dst := some 9, op := .load _ (.tmp 6), .. }) (v := ?_) rfl (Or.inl ⟨by rfl, ?_⟩) ?_
 rotate_left 1
 ·intro v hSv
  have hv1 := LC.out v hSv
  clear hSv
  go_simp
  try with_reducible rfl
 try simp only [Act.put, x_A, x_0, x_1]
 refine x_t (i := 2) (oi := { dst := some 11, op := .move (.tmp 0), .. }) (v := ?_) rfl (Or.inl ⟨by rfl, ?_⟩) ?_
 rotate_left 1
 ·intro v hSv
  clear hSv
  go_simp
  try with_reducible rfl
 try simp only [Act.put, x_A, x_0, x_1]
 refine x_t (i := 3) (oi := { dst := some 12, op := .slice _ (.tmp 5) none none none, .. }) (v := ?_) rfl (Or.inl ⟨by rfl, ?_⟩) ?_
 rotate_left 1
 ·intro v hSv
  clear hSv
  go_simp
  try with_reducible rfl
 try simp only [Act.put, x_A, x_0, x_1]
 refine x_t (i := 4) (oi := { dst := some 13, op := .load _ (.tmp 6), .. }) (v := ?_) rfl (Or.inl ⟨by rfl, ?_⟩) ?_
 rotate_left 1
 ·intro v hSv
  have hv1 := LC.out v hSv
  clear hSv
  go_simp
  try with_reducible rfl
 try simp only [Act.put, x_A, x_0, x_1]
 refine x_t (i := 5) (oi := { dst := some 14, op := .load _ (.tmp 7), .. }) (v := ?_) rfl (Or.inl ⟨by rfl, ?_⟩) ?_
 rotate_left 1
 ·intro v hSv
  have hv1 := LP.out v hSv
  clear hSv
  go_simp
  try with_reducible rfl
 try simp only [Act.put, x_A, x_0, x_1]
 refine x_t (i := 6) (oi := { dst := some 15, op := .load _ (.tmp 7), .. }) (v := ?_) rfl (Or.inl ⟨by rfl, ?_⟩) ?_
 rotate_left 1
 ·intro v hSv
  have hv1 := LP.out v hSv
  clear hSv
  go_simp
  try with_reducible rfl
 try simp only [Act.put, x_A, x_0, x_1]
 refine wpAnyH_ready (rs := [1]) (by kernel_rfl) (by simp) ?_
 refine AllReadyH.cons (o := { dst := some 10, op := .call _, .. }) rfl (fun K hK => ?_) AllReadyH.nil
 go_simp
 refine (HCS.out _ hb0).mono ?_
 rintro e y1 ⟨g1, hg1, rfl, hS1, hC1, hb⟩
 have hb1 : Keep (fun i => i = b) X y1 := (hb0).trans (Keep.of_below hb)
 have HH_1 : Hid (Hs y1 b n m) := HH0.out.keep (Keep.of_below (L := fun _ => False) hb) id
 have HSc_1 := Lib.hid hS1
 have HC_1 := Lib.hid hC1
 have HGC : Hid (X.heap.size ≤ g1) := Nat.le_trans hb0.size hg1
 clear hS1 hC1 hg1
 clear hb
 go_wp2_with fail
 refine hK.out _ _ (hb1) (fun hHeld => ?_)
 clear hK K
 try simp only [Act.put, x_A, x_0, x_1]
 refine wpAnyH_ready (rs := [7]) (by kernel_rfl) (by simp) ?_
 refine AllReadyH.cons (o := { dst := some 16, op := .call _, .. }) rfl (fun K hK => ?_) AllReadyH.nil
 go_simp
 refine (HCK.out _ hb1).mono ?_
 rintro e y2 ⟨rfl, hb⟩
 have hb2 : Keep (fun i => i = b) X y2 := (hb1).trans (Keep.of_below hb)
 have HH_2 : Hid (Hs y2 b n m) := HH_1.out.keep (Keep.of_below (L := fun _ => False) hb) id
 have HSc_2 : Hid (SpA y2 (some ⟨g1 + 1, 0, none⟩) (csS g1)) := HSc_1.out.below hb
 have HC_2 : Hid (ClAt y2 g1 c A ca B cb) := HC_1.out.below hb (lt_of_heap HC_1.out)
 clear hb
 go_wp2_with fail
 refine hK.out _ _ (hb2) (fun hHeld => ?_)
 clear hK K
 try simp only [Act.put, x_A, x_0, x_1]
 refine wpAnyH_ready (rs := [8]) (by kernel_rfl) (by simp) ?_
 refine AllReadyH.cons (o := { dst := some 17, op := .call _, .. }) rfl (fun K hK => ?_) AllReadyH.nil
 go_simp
 refine (HPS.out _ hb2).mono ?_
 rintro e y3 ⟨s3, hs3, rfl, hS3, hP3, hb⟩
 have hb3 : Keep (fun i => i = b) X y3 := (hb2).trans (Keep.of_below hb)
 have HH_3 : Hid (Hs y3 b n m) := HH_2.out.keep (Keep.of_below (L := fun _ => False) hb) id
 have HSc_3 : Hid (SpA y3 (some ⟨g1 + 1, 0, none⟩) (csS g1)) := HSc_2.out.below hb
 have HC_3 : Hid (ClAt y3 g1 c A ca B cb) := HC_2.out.below hb (lt_of_heap HC_2.out)
 have HSp_3 := Lib.hid hS3
 have HP_3 := Lib.hid hP3
 have HGS : Hid (X.heap.size ≤ s3) := Nat.le_trans hb2.size hs3
 clear hS3 hP3 hs3
 clear hb
 go_wp2_with fail
 refine hK.out _ _ (hb3) (fun hHeld => ?_)
 clear hK K
 try simp only [Act.put, x_A, x_0, x_1]
 refine wpAnyH_ready (rs := [9]) (by kernel_rfl) (by simp) ?_
 refine AllReadyH.cons (o := { dst := some 18, op := .buildSlice _ _ _, .. }) rfl (fun K hK => ?_) AllReadyH.nil
 have bq := fun w => bsSq_2 (some ⟨g1 + 1, 0, none⟩) (some ⟨s3 + 5, 0, none⟩) 2 3 2 3 w
 go_simp
 obtain ⟨y4, hy4⟩ : ∃ y, y = y3.alloc (.cells #[.slice (some ⟨g1 + 1, 0, none⟩) 2 2, .slice (some ⟨s3 + 5, 0, none⟩) 3 3] 88) := ⟨_, rfl⟩
 rw [← hy4]
 have hb : Below y3.heap.size y3 y4 := by rw [hy4]; exact Bt.one_below _ _
 have hb4 : Keep (fun i => i = b) X y4 := (hb3).trans (Keep.of_below hb)
 have HH_4 : Hid (Hs y4 b n m) := HH_3.out.keep (Keep.of_below (L := fun _ => False) hb) id
 have HSc_4 : Hid (SpA y4 (some ⟨g1 + 1, 0, none⟩) (csS g1)) := HSc_3.out.below hb
 have HC_4 : Hid (ClAt y4 g1 c A ca B cb) := HC_3.out.below hb (lt_of_heap HC_3.out)
 have HSp_4 : Hid (SpA y4 (some ⟨s3 + 5, 0, none⟩) (psS s3 form)) := HSp_3.out.below hb
 have HP_4 : Hid (PB y4 s3 b (some ⟨w.heap.size, 0, none⟩) root.length 32 c A B ca cb p D cd form) := HP_3.out.keep (Keep.of_below (L := fun _ => False) hb) fun _ _ h => h
 have HQ_4 : Hid (SqA y4 (some ⟨y3.heap.size, 0, none⟩) [⟨some ⟨g1 + 1, 0, none⟩, csS g1, 2⟩, ⟨some ⟨s3 + 5, 0, none⟩, psS s3 form, 3⟩]) := by
  show SqA _ _ _
  rw [hy4]
  exact SqA.made _ [⟨some ⟨g1 + 1, 0, none⟩, csS g1, 2⟩, ⟨some ⟨s3 + 5, 0, none⟩, psS s3 form, 3⟩] _ (by
   intro x hx
   simp only [List.mem_cons, List.not_mem_nil, or_false] at hx
   rcases hx with rfl | rfl
   ·exact ⟨Nat.le_refl _, (show 0 < 2 by decide), (show 2 ≤ 1000 by decide), HSc_3.out⟩
   ·exact ⟨Nat.le_refl _, (show 0 < 3 by decide), (show 3 ≤ 1000 by decide), HSp_3.out⟩)
 clear hb hy4
 refine hK.out _ _ (hb4) (fun hHeld => ?_)
 clear hK K
 try simp only [Act.put, x_A, x_0, x_1]
 refine wpAnyH_ready (rs := [10]) (by kernel_rfl) (by simp) ?_
 refine AllReadyH.cons (o := { dst := some 19, op := .call _, .. }) rfl (fun K hK => ?_) AllReadyH.nil
 go_simp
 refine (concatSp_c _ 2 [⟨some ⟨g1 + 1, 0, none⟩, csS g1, 2⟩, ⟨some ⟨s3 + 5, 0, none⟩, psS s3 form, 3⟩] _ HQ_4.out (show 0 < 5 by decide) (show 5 ≤ 1000000 by decide) (show 2 ≤ 1000000 by decide)).mono ?_
 rintro e y5 ⟨v5, rfl, hO5, hb⟩
 have hb5 : Keep (fun i => i = b) X y5 := (hb4).trans (Keep.of_below hb)
 have HH_5 : Hid (Hs y5 b n m) := HH_4.out.keep (Keep.of_below (L := fun _ => False) hb) id
 have HSc_5 : Hid (SpA y5 (some ⟨g1 + 1, 0, none⟩) (csS g1)) := HSc_4.out.below hb
 have HC_5 : Hid (ClAt y5 g1 c A ca B cb) := HC_4.out.below hb (lt_of_heap HC_4.out)
 have HSp_5 : Hid (SpA y5 (some ⟨s3 + 5, 0, none⟩) (psS s3 form)) := HSp_4.out.below hb
 have HP_5 : Hid (PB y5 s3 b (some ⟨w.heap.size, 0, none⟩) root.length 32 c A B ca cb p D cd form) := HP_4.out.keep (Keep.of_below (L := fun _ => False) hb) fun _ _ h => h
 obtain ⟨xs, hxs⟩ : ∃ xs, xs = csS g1 ++ psS s3 form := ⟨_, rfl⟩
 have hO5 : OwnSp y5 y4.heap.size v5 xs := by rw [hxs]; simpa [catSp] using hO5
 obtain ⟨A5, c5, rfl, hA5, _, hB5⟩ := hO5.sa
 have HXS := Lib.hid hxs
 have HA5 := Lib.hid hA5
 have HB5 : Hid (∀ g o, A5 = some ⟨g, o, none⟩ → X.heap.size ≤ g) := fun g o e => Nat.le_trans hb4.size (hB5 g o e)
 clear hxs hO5 hA5 hB5
 clear hb
 go_wp2_with fail
 refine hK.out _ _ (hb5) (fun hHeld => ?_)
 clear hK K
 try simp only [Act.put, x_A, x_0, x_1]
 refine wpAnyH_ready (rs := [11]) (by kernel_rfl) (by simp) ?_
 refine AllReadyH.cons (o := { dst := some 20, op := .call _, .. }) rfl (fun K hK => ?_) AllReadyH.nil
 go_simp
 refine (HRUN.out _ g1 s3 xs A5 c5 hb5 HXS.out HGC.out HGS.out HH_5.out HA5.out HB5.out HC_5.out HP_5.out).mono ?_
 rintro e y6 ⟨u6, m6, rfl, hu6, hm6, hH6, hb⟩
 have hb6 : Keep (fun i => i = b) X y6 := (hb5).trans hb
 have eqn := hu6.1
 have egn := hu6.2
 have HM := Lib.hid hm6
 have HHE := Lib.hid hH6
 clear hu6 hm6 hH6
 clear hb
 go_wp2_with fail
 refine hK.out _ _ (hb6) (fun hHeld => ?_)
 clear hK K
 try simp only [Act.put, x_A, x_0, x_1]
 refine x_t (i := 12) (oi := { dst := some 21, op := .binOp .eql _ (.tmp 20) (.const .nilIface) _, .. }) (v := ?_) rfl (Or.inl ⟨by rfl, ?_⟩) ?_
 rotate_left 1
 ·intro v hSv
  clear hSv
  go_simp
  try with_reducible rfl
 try simp only [Act.put, x_A, x_0, x_1]
 refine x_t (i := 13) (oi := { dst := some 8, op := .assign (.tmp 21), .. }) (v := ?_) rfl (Or.inl ⟨by rfl, ?_⟩) ?_
 rotate_left 1
 ·intro v hSv
  clear hSv
  go_simp
  try with_reducible rfl
 try simp only [Act.put, x_A, x_0, x_1]
 refine wpAnyH_done (by kernel_rfl) ?_ _
 go_wp2_with fail
 go_ret
 exact ⟨_, rfl, HM.out, HHE.out, (Keep.of_below HBW.out).trans hb6⟩
end
section
open Go.RowKit
def rtS (g : Nat) : Sp := ⟨4, 36, #[.pointer (some ⟨g, 0, none⟩)]⟩
def sixS (g gc s : Nat) (form : Int) : List Sp := rtS g :: (csS gc ++ psS s form)
noncomputable def q6 (n : Int) (root : List UInt8) (c : Cl) (p : Pf) (form : Int) : Nat → Bool
 | 0 => decide (root.length = 32)
 | k + 1 => q5 n root c p form k
def cost6 : Nat → Nat
 | 0 => 0
 | k + 1 => cost5 k
theorem cost6_le : ∀ k, cost6 k ≤ 259
 | 0 => by decide
 | k + 1 => cost5_le k
theorem ck6_ok {n : Int} {root : List UInt8} {c : Cl} {bs : List UInt8} (h : ∀ k, k < 6 → q6 n root c (decQ bs) (decE bs) k = true) : (ckV n root c bs).2 = 0 := by
 have hr : root.length = 32 := of_decide_eq_true (h 0 (by decide))
 have h0 := stC_2 (of_decide_eq_true (h 1 (by decide))) (h 2 (by decide))
 have h2 : decE bs = 0 := of_decide_eq_true (h 3 (by decide))
 have h3 : supP (decQ bs) c.k (valD n c) c.pr = true := h 4 (by decide)
 have h4 : rootP n (decQ bs) c.k = root := of_decide_eq_true (h 5 (by decide))
 unfold ckV lastV18
 rw [if_neg (by omega), h0, if_neg (fun e => e rfl), if_neg (fun e => e h2), if_neg (by rw [h3]; decide), if_neg (fun e => e h4)]
theorem ck6_no {n : Int} {root : List UInt8} {c : Cl} {bs : List UInt8} {g gc s k : Nat} {x : Sp} (hx : (sixS g gc s (decE bs))[k]? = some x) (h : ∀ j, j < k → q6 n root c (decQ bs) (decE bs) j = true) (hk : q6 n root c (decQ bs) (decE bs) k = false) : ckV n root c bs = ((k : Int), x.n) ∧ x.n ≠ 0 := by
 match k, hx, h, hk with
 | 0, hx, _, hk =>
  obtain rfl := Option.some.inj hx
  have hr : ¬ root.length = 32 := of_decide_eq_false hk
  unfold ckV
  rw [if_pos hr]
  exact ⟨rfl, show (4 : Int) ≠ 0 by decide⟩
 | 1, hx, h, hk =>
  obtain rfl := Option.some.inj hx
  have hr : root.length = 32 := of_decide_eq_true (h 0 (by decide))
  unfold ckV
  rw [if_neg (by omega), stC_0 (of_decide_eq_false hk), if_pos (by decide)]
  exact ⟨rfl, show (2 : Int) ≠ 0 by decide⟩
 | 2, hx, h, hk =>
  obtain rfl := Option.some.inj hx
  have hr : root.length = 32 := of_decide_eq_true (h 0 (by decide))
  unfold ckV
  rw [if_neg (by omega), stC_1 (of_decide_eq_true (h 1 (by decide))) hk, if_pos (by decide)]
  exact ⟨rfl, show (3 : Int) ≠ 0 by decide⟩
 | 3, hx, h, hk =>
  obtain rfl := Option.some.inj hx
  have hr : root.length = 32 := of_decide_eq_true (h 0 (by decide))
  have h2 : ¬ decE bs = 0 := of_decide_eq_false hk
  unfold ckV
  rw [if_neg (by omega), stC_2 (of_decide_eq_true (h 1 (by decide))) (h 2 (by decide)), if_neg (fun e => e rfl), if_pos h2]
  exact ⟨rfl, h2⟩
 | 4, hx, h, hk =>
  obtain rfl := Option.some.inj hx
  have hr : root.length = 32 := of_decide_eq_true (h 0 (by decide))
  have h2 : decE bs = 0 := of_decide_eq_true (h 3 (by decide))
  have h3 : supP (decQ bs) c.k (valD n c) c.pr = false := hk
  unfold ckV lastV18
  rw [if_neg (by omega), stC_2 (of_decide_eq_true (h 1 (by decide))) (h 2 (by decide)), if_neg (fun e => e rfl), if_neg (fun e => e h2), if_pos h3]
  exact ⟨rfl, show (12 : Int) ≠ 0 by decide⟩
 | 5, hx, h, hk =>
  obtain rfl := Option.some.inj hx
  have hr : root.length = 32 := of_decide_eq_true (h 0 (by decide))
  have h2 : decE bs = 0 := of_decide_eq_true (h 3 (by decide))
  have h3 : supP (decQ bs) c.k (valD n c) c.pr = true := h 4 (by decide)
  have h4 : ¬ rootP n (decQ bs) c.k = root := of_decide_eq_false hk
  unfold ckV lastV18
  rw [if_neg (by omega), stC_2 (of_decide_eq_true (h 1 (by decide))) (h 2 (by decide)), if_neg (fun e => e rfl), if_neg (fun e => e h2), if_neg (by rw [h3]; decide), if_pos h4]
  exact ⟨rfl, show (13 : Int) ≠ 0 by decide⟩
 | k + 6, hx, _, _ => exact absurd hx (by simp [sixS, csS, psS])
theorem sixIn18 (g gc s : Nat) (form : Int) (k : Nat) (x : Sp) (hx : (sixS g gc s form)[k]? = some x) : ∀ (args : Array Value) (w : World), (callFunc x.g args).run Tryz.prog w = .ok (.enter x.g args) w := by
 match k, hx with
 | 0, hx => obtain rfl := Option.some.inj hx; exact fun args w => by kernel_rfl
 | k + 1, hx => exact fiveIn18 gc s form k x hx
theorem verify18_c {M : World → Int → Tv → Prop} (pf : PfV M) (fo : FoV) (co : CoV) (w : World) (b : Nat) (n : Int) (m : Nat) (root : List UInt8) (R : Option Addr) (cr : Nat) (c : Cl) (A B : Option Addr) (ca cb : Nat) (bs : List UInt8) (D : Option Addr) (cd : Nat) (hh : Hs w b n m) (hm : m ≤ 400000) (hv : Vars w) (hR : BA w R root) (_hr : root.length ≤ cr) (hc : ClOk w c A ca B cb) (hD : BA w D bs) (hd : bs.length ≤ cd) (hd2 : bs.length ≤ 1000000) :
  Calls Tryz.prog 16 #[ptr b, .slice R root.length cr, .agg (clC c A ca B cb), .slice D bs.length cd] w fun e w' => ∃ x m', e = .returned x ∧ (((ckV n root c bs).2 = 0 → x = .nilIface) ∧ ((ckV n root c bs).2 ≠ 0 → Wr18 w' (ckV n root c bs).1 (ckV n root c bs).2 x)) ∧ m' ≤ m + 259 ∧ Hs w' b n m' ∧ Keep (fun i => i = b) w w' := by
 obtain ⟨V, hV⟩ : ∃ V, V = (w.alloc (.cells #[.slice R root.length cr] 22)).alloc (.cells (clC c A ca B cb) 24) := ⟨_, rfl⟩
 have hbV : Below w.heap.size w V := by rw [hV]; exact Bt.two_below _ _ _
 have hzV : V.heap.size = w.heap.size + 1 + 1 := by rw [hV]; simp
 have hSV : SlAt V w.heap.size (.slice R root.length cr) := by rw [hV]; exact heap_alloc2_old w _ _
 have hCV : ClAt V (w.heap.size + 1) c A ca B cb := by rw [hV]; exact heap_alloc2_new w _ _
 have HDC := Lib.hid (co.decode V bs D cd (hD.below hbV) hd hd2)
 have HV := Lib.hid hV
 have HBV := Lib.hid hbV
 have HSV := Lib.hid hSV
 have HCV := Lib.hid hCV
 have HZV := Lib.hid hzV
 have HH := Lib.hid hh
 have HM := Lib.hid hm
 have HVV := Lib.hid hv
 have HRR := Lib.hid hR
 have HC := Lib.hid hc
 have HPF := Lib.hid pf
 have HFO := Lib.hid fo
 clear hV hbV hzV hSV hCV hD hd hd2 hh hm hv hR _hr hc pf fo co
 obtain ⟨q, hq⟩ : ∃ q, q = decQ bs := ⟨_, rfl⟩
 obtain ⟨form, hform⟩ : ∃ form, form = decE bs := ⟨_, rfl⟩
 rw [← hq, ← hform] at HDC
 have hqo : q.Ok := by rw [hq]; exact decQ_ok bs
 have HQ := Lib.hid hq
 have HF := Lib.hid hform
 have HQO := Lib.hid hqo
 have zs := zeroSp
 obtain ⟨ck, hck⟩ : ∃ ck, ck = ckV n root c bs := ⟨_, rfl⟩
 rw [← hck]
 have HCK := Lib.hid hck
 clear hck
 unfold ptr at *
 clear hq hform hqo
 go_enter Tryz.func16, Tryz.ntmps16
 go_wp2_with fail
 rw [← HV.out]
 refine HDC.out.mono ?_
 rintro _ w1 ⟨D1, c1, rfl, hN1, hb1⟩
 have HB1 := Lib.hid hb1
 have HD1 := Lib.hid (hN1.ds HQO.out.sib)
 have HC1 := Lib.hid hN1.1
 have st1 := stPf_new w1 HQO.out zPf_ok D1 q.sib.length c1 (.slice none 0 0)
 obtain ⟨Y, hY⟩ : ∃ Y, Y = w1.alloc (.cells (pfC q (.slice D1 q.sib.length c1)) 53) := ⟨_, rfl⟩
 have hbY : Below w1.heap.size w1 Y := by rw [hY]; exact Bt.one_below _ _
 have hPY : PfAt Y w1.heap.size q (.slice D1 q.sib.length c1) := by rw [hY]; exact PfAt.one _ _ _
 have hzY : Y.heap.size = w1.heap.size + 1 := by rw [hY]; simp
 have st2 := stA_new (t := 86) Y zSp (spC (rtS w.heap.size)) infoSp rfl (spC_one _)
 have b0 := fun w' => bldSp 4 36 #[.pointer (some ⟨w.heap.size, 0, none⟩)] w'
 obtain ⟨x0, hx0⟩ : ∃ x0, x0 = rtS w.heap.size := ⟨_, rfl⟩
 rw [show (⟨4, 36, #[.pointer (some ⟨w.heap.size, 0, none⟩)]⟩ : Sp) = x0 from hx0.symm] at b0
 rw [← hx0] at st2
 obtain ⟨X, hX⟩ : ∃ X, X = Y.alloc (.cells (spC x0) 86) := ⟨_, rfl⟩
 rw [← hX] at st2
 have hbX : Below Y.heap.size Y X := by rw [hX]; exact Bt.one_below _ _
 have hSX : X.rangeAt Y.heap.size 0 (spL x0) := fun j v hv => by
  rw [hX, Nat.zero_add, cell_of_cells (heap_alloc_new Y _), ← Array.getElem?_toList]; exact hv
 have hb1X : Below w1.heap.size w1 X := hbY.trans (hbX.mono hbY.size)
 have hbVX : Below V.heap.size V X := HB1.out.trans (hb1X.mono HB1.out.size)
 have hbw : Below w.heap.size w X := HBV.out.trans (hbVX.mono HBV.out.size)
 have hbn : b < w.heap.size := lt_of_heap HH.out
 have hHX : Hs X b n m := HH.out.keep (Keep.of_below (L := fun _ => False) hbw) id
 have hws : w.heap.size < V.heap.size := by have := HZV.out; omega
 have hCX : ClAt X (w.heap.size + 1) c A ca B cb := HCV.out.below hbVX (by have := HZV.out; omega)
 have hRX : SlAt X w.heap.size (.slice R root.length cr) := hbVX.block _ hws |>.trans HSV.out
 have hPX : PfAt X w1.heap.size q (.slice D1 q.sib.length c1) := hPY.below hbX (by omega)
 have hw1 : w.heap.size ≤ w1.heap.size := Nat.le_trans HBV.out.size HB1.out.size
 have HHX := Lib.hid hHX
 have HRX := Lib.hid hRX
 have HNG : Hid (¬ w.heap.size = b) := by show ¬ _; omega
 have LC : Hid (∀ w', Keep (fun i => i = b) X w' → ldA 24 w' (.pointer (some ⟨w.heap.size + 1, 0, none⟩)) = .ok (.value (.agg (clC c A ca B cb))) w') := fun w' h => (show ClAt w' (w.heap.size + 1) c A ca B cb from h.heap hCX (by omega)).ld
 have LR : Hid (∀ w', Keep (fun i => i = b) X w' → w'.cell? ⟨w.heap.size, 0, none⟩ = some (.slice R root.length cr)) := fun w' h => (show SlAt w' w.heap.size _ from h.heap hRX (by omega)).cell
 have LP : Hid (∀ w', Keep (fun i => i = b) X w' → ldA 53 w' (.pointer (some ⟨w1.heap.size, 0, none⟩)) = .ok (.value (.agg (pfC q (.slice D1 q.sib.length c1)))) w') := fun w' h => (hPX.keep h (by omega)).ld HQO.out
 have LS : Hid (∀ w', Keep (fun i => i = b) X w' → ldA 86 w' (.pointer (some ⟨Y.heap.size, 0, none⟩)) = .ok (.value (.agg (spC x0))) w') := fun w' h => sp_ld fun j v hv => h.cellAt (hSX j v hv) (by show ¬ (Y.heap.size = b); omega)
 have HCS : Hid (∀ v, Keep (fun i => i = b) X v → Calls Tryz.prog 39 #[.agg (clC c A ca B cb)] v fun e w' => ∃ g, v.heap.size ≤ g ∧ e = .returned (.slice (some ⟨g + 1, 0, none⟩) 2 2) ∧ SpA w' (some ⟨g + 1, 0, none⟩) (csS g) ∧ ClAt w' g c A ca B cb ∧ Below v.heap.size v w') := fun v _ => claimSteps_c c A B ca cb v
 have HPS : Hid (∀ v, Keep (fun i => i = b) X v → Calls Tryz.prog 40 #[.pointer (some ⟨b, 0, none⟩), .slice R root.length cr, .agg (clC c A ca B cb), .agg (pfC q (.slice D1 q.sib.length c1)), .int .i64 form] v fun e w' => ∃ s, v.heap.size ≤ s ∧ e = .returned (.slice (some ⟨s + 5, 0, none⟩) 3 3) ∧ SpA w' (some ⟨s + 5, 0, none⟩) (psS s form) ∧ PB w' s b R root.length cr c A B ca cb q D1 c1 form ∧ Below v.heap.size v w') := fun v _ => proofSteps_c b R root.length cr c A B ca cb q D1 c1 form v
 have hck := HCK.out
 have HRUN : Hid (∀ (v : World) (gc s : Nat) (xs : List Sp) (A' : Option Addr) (c' : Nat), Keep (fun i => i = b) X v → xs = x0 :: (csS gc ++ psS s form) → X.heap.size ≤ gc → X.heap.size ≤ s → Hs v b n m → SpA v A' xs → (∀ g o, A' = some ⟨g, o, none⟩ → X.heap.size ≤ g) → ClAt v gc c A ca B cb → PB v s b R root.length cr c A B ca cb q D1 c1 form →
   Calls Tryz.prog 37 #[.slice A' xs.length c'] v fun e w' => ∃ u m', e = .returned u ∧ ((ck.2 = 0 → u = .nilIface) ∧ (ck.2 ≠ 0 → Wr18 w' ck.1 ck.2 u)) ∧ m' ≤ m + 259 ∧ Hs w' b n m' ∧ Keep (fun i => i = b) v w') := fun v gc s xs A' c' hK hxs hg hs hH hS hA' hCl hPb => by
  have hbX2 : b < X.heap.size := Nat.lt_of_lt_of_le hbn hbw.size
  rw [hx0] at hxs
  obtain rfl : xs = sixS w.heap.size gc s form := hxs
  have hvs : VS v gc s b n m root R cr c A B ca cb q D1 c1 form := ⟨hCl, hPb, hH, HM.out, (HVV.out.below hbw).hs hHX hK, (HC.out.below hbw).hs18 hHX hK, (HRR.out.below hbw).hs16 hHX hK, (HD1.out.below hb1X).hs hHX hK, HQO.out, HC1.out, by omega, by omega, fun h => by rw [HQ.out, decQ_raw (by rw [← HF.out]; exact h)]; exact (decE_ok (by rw [← HF.out]; exact h)).2.2.2.2.2⟩
  refine (run18 v b n m (sixS w.heap.size gc s form) A' c' (q6 n root c q form) cost6 hH hS (fun g o e1 e2 => by have := hA' g o e1; omega) (show 6 ≤ 1000 by decide) rfl (fun k _ => cost6_le k) (sixIn18 w.heap.size gc s form) ?_).mono ?_
  ·intro k x w2 m2 hx hq2 hH2 hm2 hk2
   match k, hx, hq2, hm2 with
   | 0, hx, _, hm2 =>
    obtain rfl := Option.some.inj hx
    exact (vr1_c w.heap.size R root.length cr w2 ((hK.trans hk2).heap HRX.out HNG.out)).mono (by rintro e w3 ⟨rfl, rfl⟩; exact ⟨rfl, m2, hm2, hH2, Keep.refl _ _⟩)
   | k + 1, hx, hq2, hm2 => exact five18 HPF.out HFO.out hvs k x w2 m2 hx (fun j hj => hq2 (j + 1) (Nat.succ_lt_succ hj)) hH2 hm2 hk2
  rintro e w' ⟨u, m', rfl, hu, hm', hH', hK'⟩
  refine ⟨u, m', rfl, ?_, hm', hH', hK'⟩
  rw [HQ.out, HF.out] at hu
  rw [hck]
  rcases hu with ⟨rfl, ha⟩ | ⟨k, x, h0, h1, h2, h3⟩
  ·have := ck6_ok ha
   exact ⟨fun _ => rfl, fun h => absurd this h⟩
  ·obtain ⟨h4, h5⟩ := ck6_no h0 h1 h2
   rw [h4]
   exact ⟨fun h => absurd h h5, fun _ => h3⟩
 have HBW := Lib.hid hbw
 have HX0 := Lib.hid hx0
 have HY := Lib.hid hY
 have HX := Lib.hid hX
 rw [hzY, hY] at st2
 rw [hzY] at LS
 clear hX hY hbX hbY hSX hb1X hbVX hbw hbn hHX hws hCX hRX hPX hw1 hzY hPY hN1 hb1 hx0 hck HDC
 go_wp2_with fail
 have HH0 : Hid (Hs X.drew b n m) := HHX.out.keep (Keep.of_below (L := fun _ => False) (Below.refl _ _).drew) id
 refine wp_region_held_drew (S := fun w' => Keep (fun i => i = b) X w') (by kernel_rfl) ((Keep.refl _ _).drew) (fun hHeld => ?_)
 have hb0 : Keep (fun i => i = b) X X.drew := (Keep.refl _ _).drew
 refine x_t (i := 0) (oi := { dst := some 19, op := .load _ (.tmp 11), .. }) (v := ?_) rfl (Or.inl ⟨by rfl, ?_⟩) ?_
 rotate_left 1
 ·intro v hSv
  have hv1 := LS.out v hSv
  clear hSv
  go_simp
  try with_reducible rfl
 try simp only [Act.put, x_A, x_0, x_1]
 refine x_t (i := 2) (oi := { dst := some 21, op := .load _ (.tmp 6), .. }) (v := ?_) rfl (Or.inl ⟨by rfl, ?_⟩) ?_
 rotate_left 1
 ·intro v hSv
  have hv1 := LC.out v hSv
  clear hSv
  go_simp
  try with_reducible rfl
 try simp only [Act.put, x_A, x_0, x_1]
 refine x_t (i := 4) (oi := { dst := some 23, op := .move (.tmp 0), .. }) (v := ?_) rfl (Or.inl ⟨by rfl, ?_⟩) ?_
 rotate_left 1
 ·intro v hSv
  clear hSv
  go_simp
  try with_reducible rfl
 try simp only [Act.put, x_A, x_0, x_1]
 refine x_t (i := 5) (oi := { dst := some 24, op := .load _ (.tmp 5), .. }) (v := ?_) rfl (Or.inl ⟨by rfl, ?_⟩) ?_
 rotate_left 1
 ·intro v hSv
  have hv1 := LR.out v hSv
  clear hSv
  go_simp
  try with_reducible rfl
 try simp only [Act.put, x_A, x_0, x_1]
 refine x_t (i := 6) (oi := { dst := some 25, op := .load _ (.tmp 6), .. }) (v := ?_) rfl (Or.inl ⟨by rfl, ?_⟩) ?_
 rotate_left 1
 ·intro v hSv
  have hv1 := LC.out v hSv
  clear hSv
  go_simp
  try with_reducible rfl
 try simp only [Act.put, x_A, x_0, x_1]
 refine x_t (i := 7) (oi := { dst := some 26, op := .load _ (.tmp 9), .. }) (v := ?_) rfl (Or.inl ⟨by rfl, ?_⟩) ?_
 rotate_left 1
 ·intro v hSv
  have hv1 := LP.out v hSv
  clear hSv
  go_simp
  try with_reducible rfl
 try simp only [Act.put, x_A, x_0, x_1]
 refine x_t (i := 8) (oi := { dst := some 27, op := .move (.tmp 10), .. }) (v := ?_) rfl (Or.inl ⟨by rfl, ?_⟩) ?_
 rotate_left 1
 ·intro v hSv
  clear hSv
  go_simp
  try with_reducible rfl
 try simp only [Act.put, x_A, x_0, x_1]
 refine wpAnyH_ready (rs := [1, 3]) (by kernel_rfl) (by simp) ?_
 refine AllReadyH.cons (o := { dst := some 20, op := .buildSlice _ _ _, .. }) rfl (fun K hK => ?_) (AllReadyH.cons (o := { dst := some 22, op := .call _, .. }) rfl (fun K hK => ?_) (AllReadyH.nil))
 ·skip
  have bq1 := fun w => bsSp_1 x0 w
  go_simp
  obtain ⟨y1, hy1⟩ : ∃ y, y = (X.alloc (.cells #[.int .i64 x0.n, spF x0] 86)).drew := ⟨_, rfl⟩
  rw [← hy1]
  have hb : Below X.heap.size X y1 := by rw [hy1]; exact ((Below.refl _ _).alloc (Nat.le_refl _) _).drew
  have hb1 : Keep (fun i => i = b) X y1 := (Keep.refl _ _).trans (Keep.of_below hb)
  have HH_1 : Hid (Hs y1 b n m) := HHX.out.keep (Keep.of_below (L := fun _ => False) hb) id
  have HSr_1 : Hid (SpA y1 (some ⟨X.heap.size, 0, none⟩) [x0]) := by
   show SpA _ _ _
   rw [hy1]
   exact sp_row _ [x0] _ _ rfl
  clear hb hy1
  refine hK.out _ _ (hb1) (fun hHeld => ?_)
  clear hK K
  try simp only [Act.put, x_A, x_0, x_1]
  refine wpAnyH_ready (rs := [3]) (by kernel_rfl) (by simp) ?_
  refine AllReadyH.cons (o := { dst := some 22, op := .call _, .. }) rfl (fun K hK => ?_) AllReadyH.nil
  go_simp
  refine (HCS.out _ hb1).mono ?_
  rintro e y2 ⟨g2, hg2, rfl, hS2, hC2, hb⟩
  have hb2 : Keep (fun i => i = b) X y2 := (hb1).trans (Keep.of_below hb)
  have HH_2 : Hid (Hs y2 b n m) := HH_1.out.keep (Keep.of_below (L := fun _ => False) hb) id
  have HSr_2 : Hid (SpA y2 (some ⟨X.heap.size, 0, none⟩) [x0]) := HSr_1.out.below hb
  have HSc_2 := Lib.hid hS2
  have HC_2 := Lib.hid hC2
  have HGC : Hid (X.heap.size ≤ g2) := Nat.le_trans hb1.size hg2
  clear hS2 hC2 hg2
  clear hb
  go_wp2_with fail
  refine hK.out _ _ (hb2) (fun hHeld => ?_)
  clear hK K
  try simp only [Act.put, x_A, x_0, x_1]
  refine wpAnyH_ready (rs := [9]) (by kernel_rfl) (by simp) ?_
  refine AllReadyH.cons (o := { dst := some 28, op := .call _, .. }) rfl (fun K hK => ?_) AllReadyH.nil
  go_simp
  refine (HPS.out _ hb2).mono ?_
  rintro e y3 ⟨s3, hs3, rfl, hS3, hP3, hb⟩
  have hb3 : Keep (fun i => i = b) X y3 := (hb2).trans (Keep.of_below hb)
  have HH_3 : Hid (Hs y3 b n m) := HH_2.out.keep (Keep.of_below (L := fun _ => False) hb) id
  have HSr_3 : Hid (SpA y3 (some ⟨X.heap.size, 0, none⟩) [x0]) := HSr_2.out.below hb
  have HSc_3 : Hid (SpA y3 (some ⟨g2 + 1, 0, none⟩) (csS g2)) := HSc_2.out.below hb
  have HC_3 : Hid (ClAt y3 g2 c A ca B cb) := HC_2.out.below hb (lt_of_heap HC_2.out)
  have HSp_3 := Lib.hid hS3
  have HP_3 := Lib.hid hP3
  have HGS : Hid (X.heap.size ≤ s3) := Nat.le_trans hb2.size hs3
  clear hS3 hP3 hs3
  clear hb
  go_wp2_with fail
  refine hK.out _ _ (hb3) (fun hHeld => ?_)
  clear hK K
  try simp only [Act.put, x_A, x_0, x_1]
  refine wpAnyH_ready (rs := [10]) (by kernel_rfl) (by simp) ?_
  refine AllReadyH.cons (o := { dst := some 29, op := .buildSlice _ _ _, .. }) rfl (fun K hK => ?_) AllReadyH.nil
  have bq := fun w => bsSq_3 (some ⟨X.heap.size, 0, none⟩) (some ⟨g2 + 1, 0, none⟩) (some ⟨s3 + 5, 0, none⟩) 1 2 3 1 2 3 w
  go_simp
  obtain ⟨y4, hy4⟩ : ∃ y, y = y3.alloc (.cells #[.slice (some ⟨X.heap.size, 0, none⟩) 1 1, .slice (some ⟨g2 + 1, 0, none⟩) 2 2, .slice (some ⟨s3 + 5, 0, none⟩) 3 3] 88) := ⟨_, rfl⟩
  rw [← hy4]
  have hb : Below y3.heap.size y3 y4 := by rw [hy4]; exact Bt.one_below _ _
  have hb4 : Keep (fun i => i = b) X y4 := (hb3).trans (Keep.of_below hb)
  have HH_4 : Hid (Hs y4 b n m) := HH_3.out.keep (Keep.of_below (L := fun _ => False) hb) id
  have HSr_4 : Hid (SpA y4 (some ⟨X.heap.size, 0, none⟩) [x0]) := HSr_3.out.below hb
  have HSc_4 : Hid (SpA y4 (some ⟨g2 + 1, 0, none⟩) (csS g2)) := HSc_3.out.below hb
  have HC_4 : Hid (ClAt y4 g2 c A ca B cb) := HC_3.out.below hb (lt_of_heap HC_3.out)
  have HSp_4 : Hid (SpA y4 (some ⟨s3 + 5, 0, none⟩) (psS s3 form)) := HSp_3.out.below hb
  have HP_4 : Hid (PB y4 s3 b R root.length cr c A B ca cb q D1 c1 form) := HP_3.out.keep (Keep.of_below (L := fun _ => False) hb) fun _ _ h => h
  have HQ_4 : Hid (SqA y4 (some ⟨y3.heap.size, 0, none⟩) [⟨some ⟨X.heap.size, 0, none⟩, [x0], 1⟩, ⟨some ⟨g2 + 1, 0, none⟩, csS g2, 2⟩, ⟨some ⟨s3 + 5, 0, none⟩, psS s3 form, 3⟩]) := by
   show SqA _ _ _
   rw [hy4]
   exact SqA.made _ [⟨some ⟨X.heap.size, 0, none⟩, [x0], 1⟩, ⟨some ⟨g2 + 1, 0, none⟩, csS g2, 2⟩, ⟨some ⟨s3 + 5, 0, none⟩, psS s3 form, 3⟩] _ (by
    intro x hx
    simp only [List.mem_cons, List.not_mem_nil, or_false] at hx
    rcases hx with rfl | rfl | rfl
    ·exact ⟨Nat.le_refl _, (show 0 < 1 by decide), (show 1 ≤ 1000 by decide), HSr_3.out⟩
    ·exact ⟨Nat.le_refl _, (show 0 < 2 by decide), (show 2 ≤ 1000 by decide), HSc_3.out⟩
    ·exact ⟨Nat.le_refl _, (show 0 < 3 by decide), (show 3 ≤ 1000 by decide), HSp_3.out⟩)
  clear hb hy4
  refine hK.out _ _ (hb4) (fun hHeld => ?_)
  clear hK K
  try simp only [Act.put, x_A, x_0, x_1]
  refine wpAnyH_ready (rs := [11]) (by kernel_rfl) (by simp) ?_
  refine AllReadyH.cons (o := { dst := some 30, op := .call _, .. }) rfl (fun K hK => ?_) AllReadyH.nil
  go_simp
  refine (concatSp_c _ 3 [⟨some ⟨X.heap.size, 0, none⟩, [x0], 1⟩, ⟨some ⟨g2 + 1, 0, none⟩, csS g2, 2⟩, ⟨some ⟨s3 + 5, 0, none⟩, psS s3 form, 3⟩] _ HQ_4.out (show 0 < 6 by decide) (show 6 ≤ 1000000 by decide) (show 3 ≤ 1000000 by decide)).mono ?_
  rintro e y5 ⟨v5, rfl, hO5, hb⟩
  have hb5 : Keep (fun i => i = b) X y5 := (hb4).trans (Keep.of_below hb)
  have HH_5 : Hid (Hs y5 b n m) := HH_4.out.keep (Keep.of_below (L := fun _ => False) hb) id
  have HSr_5 : Hid (SpA y5 (some ⟨X.heap.size, 0, none⟩) [x0]) := HSr_4.out.below hb
  have HSc_5 : Hid (SpA y5 (some ⟨g2 + 1, 0, none⟩) (csS g2)) := HSc_4.out.below hb
  have HC_5 : Hid (ClAt y5 g2 c A ca B cb) := HC_4.out.below hb (lt_of_heap HC_4.out)
  have HSp_5 : Hid (SpA y5 (some ⟨s3 + 5, 0, none⟩) (psS s3 form)) := HSp_4.out.below hb
  have HP_5 : Hid (PB y5 s3 b R root.length cr c A B ca cb q D1 c1 form) := HP_4.out.keep (Keep.of_below (L := fun _ => False) hb) fun _ _ h => h
  obtain ⟨xs, hxs⟩ : ∃ xs, xs = x0 :: (csS g2 ++ psS s3 form) := ⟨_, rfl⟩
  have hO5 : OwnSp y5 y4.heap.size v5 xs := by rw [hxs]; simpa [catSp] using hO5
  obtain ⟨A5, c5, rfl, hA5, _, hB5⟩ := hO5.sa
  have HXS := Lib.hid hxs
  have HA5 := Lib.hid hA5
  have HB5 : Hid (∀ g o, A5 = some ⟨g, o, none⟩ → X.heap.size ≤ g) := fun g o e => Nat.le_trans hb4.size (hB5 g o e)
  clear hxs hO5 hA5 hB5
  clear hb
  go_wp2_with fail
  refine hK.out _ _ (hb5) (fun hHeld => ?_)
  clear hK K
  try simp only [Act.put, x_A, x_0, x_1]
  refine wpAnyH_ready (rs := [12]) (by kernel_rfl) (by simp) ?_
  refine AllReadyH.cons (o := { dst := some 31, op := .call _, .. }) rfl (fun K hK => ?_) AllReadyH.nil
  go_simp
  refine (HRUN.out _ g2 s3 xs A5 c5 hb5 HXS.out HGC.out HGS.out HH_5.out HA5.out HB5.out HC_5.out HP_5.out).mono ?_
  rintro e y6 ⟨u6, m6, rfl, hu6, hm6, hH6, hb⟩
  have hb6 : Keep (fun i => i = b) X y6 := (hb5).trans hb
  have HU := Lib.hid hu6
  have HMM := Lib.hid hm6
  have HHE := Lib.hid hH6
  clear hu6 hm6 hH6
  clear hb
  go_wp2_with fail
  refine hK.out _ _ (hb6) (fun hHeld => ?_)
  clear hK K
  try simp only [Act.put, x_A, x_0, x_1]
  refine x_t (i := 13) (oi := { dst := some 8, op := .assign (.tmp 31), .. }) (v := ?_) rfl (Or.inl ⟨by rfl, ?_⟩) ?_
  rotate_left 1
  ·intro v hSv
   clear hSv
   go_simp
   try with_reducible rfl
  try simp only [Act.put, x_A, x_0, x_1]
  refine wpAnyH_done (by kernel_rfl) ?_ _
  go_wp2_with fail
  go_ret
  exact ⟨u6, m6, rfl, HU.out, HMM.out, HHE.out, (Keep.of_below HBW.out).trans hb6⟩
 ·skip
  go_simp
  refine (HCS.out _ hb0).mono ?_
  rintro e y7 ⟨g7, hg7, rfl, hS7, hC7, hb⟩
  have hb7 : Keep (fun i => i = b) X y7 := (hb0).trans (Keep.of_below hb)
  have HH_7 : Hid (Hs y7 b n m) := HH0.out.keep (Keep.of_below (L := fun _ => False) hb) id
  have HSc_7 := Lib.hid hS7
  have HC_7 := Lib.hid hC7
  have HGC : Hid (X.heap.size ≤ g7) := Nat.le_trans hb0.size hg7
  clear hS7 hC7 hg7
  clear hb
  go_wp2_with fail
  refine hK.out _ _ (hb7) (fun hHeld => ?_)
  clear hK K
  try simp only [Act.put, x_A, x_0, x_1]
  refine wpAnyH_ready (rs := [1, 9]) (by kernel_rfl) (by simp) ?_
  refine AllReadyH.cons (o := { dst := some 20, op := .buildSlice _ _ _, .. }) rfl (fun K hK => ?_) (AllReadyH.cons (o := { dst := some 28, op := .call _, .. }) rfl (fun K hK => ?_) (AllReadyH.nil))
  ·skip
   have bq1 := fun w => bsSp_1 x0 w
   go_simp
   obtain ⟨y8, hy8⟩ : ∃ y, y = y7.alloc (.cells #[.int .i64 x0.n, spF x0] 86) := ⟨_, rfl⟩
   rw [← hy8]
   have hb : Below y7.heap.size y7 y8 := by rw [hy8]; exact Bt.one_below _ _
   have hb8 : Keep (fun i => i = b) X y8 := (hb7).trans (Keep.of_below hb)
   have HH_8 : Hid (Hs y8 b n m) := HH_7.out.keep (Keep.of_below (L := fun _ => False) hb) id
   have HSc_8 : Hid (SpA y8 (some ⟨g7 + 1, 0, none⟩) (csS g7)) := HSc_7.out.below hb
   have HC_8 : Hid (ClAt y8 g7 c A ca B cb) := HC_7.out.below hb (lt_of_heap HC_7.out)
   have HSr_8 : Hid (SpA y8 (some ⟨y7.heap.size, 0, none⟩) [x0]) := by
    show SpA _ _ _
    rw [hy8]
    exact sp_row _ [x0] _ _ rfl
   clear hb hy8
   refine hK.out _ _ (hb8) (fun hHeld => ?_)
   clear hK K
   try simp only [Act.put, x_A, x_0, x_1]
   refine wpAnyH_ready (rs := [9]) (by kernel_rfl) (by simp) ?_
   refine AllReadyH.cons (o := { dst := some 28, op := .call _, .. }) rfl (fun K hK => ?_) AllReadyH.nil
   go_simp
   refine (HPS.out _ hb8).mono ?_
   rintro e y9 ⟨s9, hs9, rfl, hS9, hP9, hb⟩
   have hb9 : Keep (fun i => i = b) X y9 := (hb8).trans (Keep.of_below hb)
   have HH_9 : Hid (Hs y9 b n m) := HH_8.out.keep (Keep.of_below (L := fun _ => False) hb) id
   have HSc_9 : Hid (SpA y9 (some ⟨g7 + 1, 0, none⟩) (csS g7)) := HSc_8.out.below hb
   have HC_9 : Hid (ClAt y9 g7 c A ca B cb) := HC_8.out.below hb (lt_of_heap HC_8.out)
   have HSr_9 : Hid (SpA y9 (some ⟨y7.heap.size, 0, none⟩) [x0]) := HSr_8.out.below hb
   have HSp_9 := Lib.hid hS9
   have HP_9 := Lib.hid hP9
   have HGS : Hid (X.heap.size ≤ s9) := Nat.le_trans hb8.size hs9
   clear hS9 hP9 hs9
   clear hb
   go_wp2_with fail
   refine hK.out _ _ (hb9) (fun hHeld => ?_)
   clear hK K
   try simp only [Act.put, x_A, x_0, x_1]
   refine wpAnyH_ready (rs := [10]) (by kernel_rfl) (by simp) ?_
   refine AllReadyH.cons (o := { dst := some 29, op := .buildSlice _ _ _, .. }) rfl (fun K hK => ?_) AllReadyH.nil
   have bq := fun w => bsSq_3 (some ⟨y7.heap.size, 0, none⟩) (some ⟨g7 + 1, 0, none⟩) (some ⟨s9 + 5, 0, none⟩) 1 2 3 1 2 3 w
   go_simp
   obtain ⟨y10, hy10⟩ : ∃ y, y = y9.alloc (.cells #[.slice (some ⟨y7.heap.size, 0, none⟩) 1 1, .slice (some ⟨g7 + 1, 0, none⟩) 2 2, .slice (some ⟨s9 + 5, 0, none⟩) 3 3] 88) := ⟨_, rfl⟩
   rw [← hy10]
   have hb : Below y9.heap.size y9 y10 := by rw [hy10]; exact Bt.one_below _ _
   have hb10 : Keep (fun i => i = b) X y10 := (hb9).trans (Keep.of_below hb)
   have HH_10 : Hid (Hs y10 b n m) := HH_9.out.keep (Keep.of_below (L := fun _ => False) hb) id
   have HSc_10 : Hid (SpA y10 (some ⟨g7 + 1, 0, none⟩) (csS g7)) := HSc_9.out.below hb
   have HC_10 : Hid (ClAt y10 g7 c A ca B cb) := HC_9.out.below hb (lt_of_heap HC_9.out)
   have HSr_10 : Hid (SpA y10 (some ⟨y7.heap.size, 0, none⟩) [x0]) := HSr_9.out.below hb
   have HSp_10 : Hid (SpA y10 (some ⟨s9 + 5, 0, none⟩) (psS s9 form)) := HSp_9.out.below hb
   have HP_10 : Hid (PB y10 s9 b R root.length cr c A B ca cb q D1 c1 form) := HP_9.out.keep (Keep.of_below (L := fun _ => False) hb) fun _ _ h => h
   have HQ_10 : Hid (SqA y10 (some ⟨y9.heap.size, 0, none⟩) [⟨some ⟨y7.heap.size, 0, none⟩, [x0], 1⟩, ⟨some ⟨g7 + 1, 0, none⟩, csS g7, 2⟩, ⟨some ⟨s9 + 5, 0, none⟩, psS s9 form, 3⟩]) := by
    show SqA _ _ _
    rw [hy10]
    exact SqA.made _ [⟨some ⟨y7.heap.size, 0, none⟩, [x0], 1⟩, ⟨some ⟨g7 + 1, 0, none⟩, csS g7, 2⟩, ⟨some ⟨s9 + 5, 0, none⟩, psS s9 form, 3⟩] _ (by
     intro x hx
     simp only [List.mem_cons, List.not_mem_nil, or_false] at hx
     rcases hx with rfl | rfl | rfl
     ·exact ⟨Nat.le_refl _, (show 0 < 1 by decide), (show 1 ≤ 1000 by decide), HSr_9.out⟩
     ·exact ⟨Nat.le_refl _, (show 0 < 2 by decide), (show 2 ≤ 1000 by decide), HSc_9.out⟩
     ·exact ⟨Nat.le_refl _, (show 0 < 3 by decide), (show 3 ≤ 1000 by decide), HSp_9.out⟩)
   clear hb hy10
   refine hK.out _ _ (hb10) (fun hHeld => ?_)
   clear hK K
   try simp only [Act.put, x_A, x_0, x_1]
   refine wpAnyH_ready (rs := [11]) (by kernel_rfl) (by simp) ?_
   refine AllReadyH.cons (o := { dst := some 30, op := .call _, .. }) rfl (fun K hK => ?_) AllReadyH.nil
   go_simp
   refine (concatSp_c _ 3 [⟨some ⟨y7.heap.size, 0, none⟩, [x0], 1⟩, ⟨some ⟨g7 + 1, 0, none⟩, csS g7, 2⟩, ⟨some ⟨s9 + 5, 0, none⟩, psS s9 form, 3⟩] _ HQ_10.out (show 0 < 6 by decide) (show 6 ≤ 1000000 by decide) (show 3 ≤ 1000000 by decide)).mono ?_
   rintro e y11 ⟨v11, rfl, hO11, hb⟩
   have hb11 : Keep (fun i => i = b) X y11 := (hb10).trans (Keep.of_below hb)
   have HH_11 : Hid (Hs y11 b n m) := HH_10.out.keep (Keep.of_below (L := fun _ => False) hb) id
   have HSc_11 : Hid (SpA y11 (some ⟨g7 + 1, 0, none⟩) (csS g7)) := HSc_10.out.below hb
   have HC_11 : Hid (ClAt y11 g7 c A ca B cb) := HC_10.out.below hb (lt_of_heap HC_10.out)
   have HSr_11 : Hid (SpA y11 (some ⟨y7.heap.size, 0, none⟩) [x0]) := HSr_10.out.below hb
   have HSp_11 : Hid (SpA y11 (some ⟨s9 + 5, 0, none⟩) (psS s9 form)) := HSp_10.out.below hb
   have HP_11 : Hid (PB y11 s9 b R root.length cr c A B ca cb q D1 c1 form) := HP_10.out.keep (Keep.of_below (L := fun _ => False) hb) fun _ _ h => h
   obtain ⟨xs, hxs⟩ : ∃ xs, xs = x0 :: (csS g7 ++ psS s9 form) := ⟨_, rfl⟩
   have hO11 : OwnSp y11 y10.heap.size v11 xs := by rw [hxs]; simpa [catSp] using hO11
   obtain ⟨A11, c11, rfl, hA11, _, hB11⟩ := hO11.sa
   have HXS := Lib.hid hxs
   have HA11 := Lib.hid hA11
   have HB11 : Hid (∀ g o, A11 = some ⟨g, o, none⟩ → X.heap.size ≤ g) := fun g o e => Nat.le_trans hb10.size (hB11 g o e)
   clear hxs hO11 hA11 hB11
   clear hb
   go_wp2_with fail
   refine hK.out _ _ (hb11) (fun hHeld => ?_)
   clear hK K
   try simp only [Act.put, x_A, x_0, x_1]
   refine wpAnyH_ready (rs := [12]) (by kernel_rfl) (by simp) ?_
   refine AllReadyH.cons (o := { dst := some 31, op := .call _, .. }) rfl (fun K hK => ?_) AllReadyH.nil
   go_simp
   refine (HRUN.out _ g7 s9 xs A11 c11 hb11 HXS.out HGC.out HGS.out HH_11.out HA11.out HB11.out HC_11.out HP_11.out).mono ?_
   rintro e y12 ⟨u12, m12, rfl, hu12, hm12, hH12, hb⟩
   have hb12 : Keep (fun i => i = b) X y12 := (hb11).trans hb
   have HU := Lib.hid hu12
   have HMM := Lib.hid hm12
   have HHE := Lib.hid hH12
   clear hu12 hm12 hH12
   clear hb
   go_wp2_with fail
   refine hK.out _ _ (hb12) (fun hHeld => ?_)
   clear hK K
   try simp only [Act.put, x_A, x_0, x_1]
   refine x_t (i := 13) (oi := { dst := some 8, op := .assign (.tmp 31), .. }) (v := ?_) rfl (Or.inl ⟨by rfl, ?_⟩) ?_
   rotate_left 1
   ·intro v hSv
    clear hSv
    go_simp
    try with_reducible rfl
   try simp only [Act.put, x_A, x_0, x_1]
   refine wpAnyH_done (by kernel_rfl) ?_ _
   go_wp2_with fail
   go_ret
   exact ⟨u12, m12, rfl, HU.out, HMM.out, HHE.out, (Keep.of_below HBW.out).trans hb12⟩
  ·skip
   go_simp
   refine (HPS.out _ hb7).mono ?_
   rintro e y13 ⟨s13, hs13, rfl, hS13, hP13, hb⟩
   have hb13 : Keep (fun i => i = b) X y13 := (hb7).trans (Keep.of_below hb)
   have HH_13 : Hid (Hs y13 b n m) := HH_7.out.keep (Keep.of_below (L := fun _ => False) hb) id
   have HSc_13 : Hid (SpA y13 (some ⟨g7 + 1, 0, none⟩) (csS g7)) := HSc_7.out.below hb
   have HC_13 : Hid (ClAt y13 g7 c A ca B cb) := HC_7.out.below hb (lt_of_heap HC_7.out)
   have HSp_13 := Lib.hid hS13
   have HP_13 := Lib.hid hP13
   have HGS : Hid (X.heap.size ≤ s13) := Nat.le_trans hb7.size hs13
   clear hS13 hP13 hs13
   clear hb
   go_wp2_with fail
   refine hK.out _ _ (hb13) (fun hHeld => ?_)
   clear hK K
   try simp only [Act.put, x_A, x_0, x_1]
   refine wpAnyH_ready (rs := [1]) (by kernel_rfl) (by simp) ?_
   refine AllReadyH.cons (o := { dst := some 20, op := .buildSlice _ _ _, .. }) rfl (fun K hK => ?_) AllReadyH.nil
   have bq1 := fun w => bsSp_1 x0 w
   go_simp
   obtain ⟨y14, hy14⟩ : ∃ y, y = y13.alloc (.cells #[.int .i64 x0.n, spF x0] 86) := ⟨_, rfl⟩
   rw [← hy14]
   have hb : Below y13.heap.size y13 y14 := by rw [hy14]; exact Bt.one_below _ _
   have hb14 : Keep (fun i => i = b) X y14 := (hb13).trans (Keep.of_below hb)
   have HH_14 : Hid (Hs y14 b n m) := HH_13.out.keep (Keep.of_below (L := fun _ => False) hb) id
   have HSc_14 : Hid (SpA y14 (some ⟨g7 + 1, 0, none⟩) (csS g7)) := HSc_13.out.below hb
   have HC_14 : Hid (ClAt y14 g7 c A ca B cb) := HC_13.out.below hb (lt_of_heap HC_13.out)
   have HSp_14 : Hid (SpA y14 (some ⟨s13 + 5, 0, none⟩) (psS s13 form)) := HSp_13.out.below hb
   have HP_14 : Hid (PB y14 s13 b R root.length cr c A B ca cb q D1 c1 form) := HP_13.out.keep (Keep.of_below (L := fun _ => False) hb) fun _ _ h => h
   have HSr_14 : Hid (SpA y14 (some ⟨y13.heap.size, 0, none⟩) [x0]) := by
    show SpA _ _ _
    rw [hy14]
    exact sp_row _ [x0] _ _ rfl
   clear hb hy14
   refine hK.out _ _ (hb14) (fun hHeld => ?_)
   clear hK K
   try simp only [Act.put, x_A, x_0, x_1]
   refine wpAnyH_ready (rs := [10]) (by kernel_rfl) (by simp) ?_
   refine AllReadyH.cons (o := { dst := some 29, op := .buildSlice _ _ _, .. }) rfl (fun K hK => ?_) AllReadyH.nil
   have bq := fun w => bsSq_3 (some ⟨y13.heap.size, 0, none⟩) (some ⟨g7 + 1, 0, none⟩) (some ⟨s13 + 5, 0, none⟩) 1 2 3 1 2 3 w
   go_simp
   obtain ⟨y15, hy15⟩ : ∃ y, y = y14.alloc (.cells #[.slice (some ⟨y13.heap.size, 0, none⟩) 1 1, .slice (some ⟨g7 + 1, 0, none⟩) 2 2, .slice (some ⟨s13 + 5, 0, none⟩) 3 3] 88) := ⟨_, rfl⟩
   rw [← hy15]
   have hb : Below y14.heap.size y14 y15 := by rw [hy15]; exact Bt.one_below _ _
   have hb15 : Keep (fun i => i = b) X y15 := (hb14).trans (Keep.of_below hb)
   have HH_15 : Hid (Hs y15 b n m) := HH_14.out.keep (Keep.of_below (L := fun _ => False) hb) id
   have HSc_15 : Hid (SpA y15 (some ⟨g7 + 1, 0, none⟩) (csS g7)) := HSc_14.out.below hb
   have HC_15 : Hid (ClAt y15 g7 c A ca B cb) := HC_14.out.below hb (lt_of_heap HC_14.out)
   have HSp_15 : Hid (SpA y15 (some ⟨s13 + 5, 0, none⟩) (psS s13 form)) := HSp_14.out.below hb
   have HP_15 : Hid (PB y15 s13 b R root.length cr c A B ca cb q D1 c1 form) := HP_14.out.keep (Keep.of_below (L := fun _ => False) hb) fun _ _ h => h
   have HSr_15 : Hid (SpA y15 (some ⟨y13.heap.size, 0, none⟩) [x0]) := HSr_14.out.below hb
   have HQ_15 : Hid (SqA y15 (some ⟨y14.heap.size, 0, none⟩) [⟨some ⟨y13.heap.size, 0, none⟩, [x0], 1⟩, ⟨some ⟨g7 + 1, 0, none⟩, csS g7, 2⟩, ⟨some ⟨s13 + 5, 0, none⟩, psS s13 form, 3⟩]) := by
    show SqA _ _ _
    rw [hy15]
    exact SqA.made _ [⟨some ⟨y13.heap.size, 0, none⟩, [x0], 1⟩, ⟨some ⟨g7 + 1, 0, none⟩, csS g7, 2⟩, ⟨some ⟨s13 + 5, 0, none⟩, psS s13 form, 3⟩] _ (by
     intro x hx
     simp only [List.mem_cons, List.not_mem_nil, or_false] at hx
     rcases hx with rfl | rfl | rfl
     ·exact ⟨Nat.le_refl _, (show 0 < 1 by decide), (show 1 ≤ 1000 by decide), HSr_14.out⟩
     ·exact ⟨Nat.le_refl _, (show 0 < 2 by decide), (show 2 ≤ 1000 by decide), HSc_14.out⟩
     ·exact ⟨Nat.le_refl _, (show 0 < 3 by decide), (show 3 ≤ 1000 by decide), HSp_14.out⟩)
   clear hb hy15
   refine hK.out _ _ (hb15) (fun hHeld => ?_)
   clear hK K
   try simp only [Act.put, x_A, x_0, x_1]
   refine wpAnyH_ready (rs := [11]) (by kernel_rfl) (by simp) ?_
   refine AllReadyH.cons (o := { dst := some 30, op := .call _, .. }) rfl (fun K hK => ?_) AllReadyH.nil
   go_simp
   refine (concatSp_c _ 3 [⟨some ⟨y13.heap.size, 0, none⟩, [x0], 1⟩, ⟨some ⟨g7 + 1, 0, none⟩, csS g7, 2⟩, ⟨some ⟨s13 + 5, 0, none⟩, psS s13 form, 3⟩] _ HQ_15.out (show 0 < 6 by decide) (show 6 ≤ 1000000 by decide) (show 3 ≤ 1000000 by decide)).mono ?_
   rintro e y16 ⟨v16, rfl, hO16, hb⟩
   have hb16 : Keep (fun i => i = b) X y16 := (hb15).trans (Keep.of_below hb)
   have HH_16 : Hid (Hs y16 b n m) := HH_15.out.keep (Keep.of_below (L := fun _ => False) hb) id
   have HSc_16 : Hid (SpA y16 (some ⟨g7 + 1, 0, none⟩) (csS g7)) := HSc_15.out.below hb
   have HC_16 : Hid (ClAt y16 g7 c A ca B cb) := HC_15.out.below hb (lt_of_heap HC_15.out)
   have HSp_16 : Hid (SpA y16 (some ⟨s13 + 5, 0, none⟩) (psS s13 form)) := HSp_15.out.below hb
   have HP_16 : Hid (PB y16 s13 b R root.length cr c A B ca cb q D1 c1 form) := HP_15.out.keep (Keep.of_below (L := fun _ => False) hb) fun _ _ h => h
   have HSr_16 : Hid (SpA y16 (some ⟨y13.heap.size, 0, none⟩) [x0]) := HSr_15.out.below hb
   obtain ⟨xs, hxs⟩ : ∃ xs, xs = x0 :: (csS g7 ++ psS s13 form) := ⟨_, rfl⟩
   have hO16 : OwnSp y16 y15.heap.size v16 xs := by rw [hxs]; simpa [catSp] using hO16
   obtain ⟨A16, c16, rfl, hA16, _, hB16⟩ := hO16.sa
   have HXS := Lib.hid hxs
   have HA16 := Lib.hid hA16
   have HB16 : Hid (∀ g o, A16 = some ⟨g, o, none⟩ → X.heap.size ≤ g) := fun g o e => Nat.le_trans hb15.size (hB16 g o e)
   clear hxs hO16 hA16 hB16
   clear hb
   go_wp2_with fail
   refine hK.out _ _ (hb16) (fun hHeld => ?_)
   clear hK K
   try simp only [Act.put, x_A, x_0, x_1]
   refine wpAnyH_ready (rs := [12]) (by kernel_rfl) (by simp) ?_
   refine AllReadyH.cons (o := { dst := some 31, op := .call _, .. }) rfl (fun K hK => ?_) AllReadyH.nil
   go_simp
   refine (HRUN.out _ g7 s13 xs A16 c16 hb16 HXS.out HGC.out HGS.out HH_16.out HA16.out HB16.out HC_16.out HP_16.out).mono ?_
   rintro e y17 ⟨u17, m17, rfl, hu17, hm17, hH17, hb⟩
   have hb17 : Keep (fun i => i = b) X y17 := (hb16).trans hb
   have HU := Lib.hid hu17
   have HMM := Lib.hid hm17
   have HHE := Lib.hid hH17
   clear hu17 hm17 hH17
   clear hb
   go_wp2_with fail
   refine hK.out _ _ (hb17) (fun hHeld => ?_)
   clear hK K
   try simp only [Act.put, x_A, x_0, x_1]
   refine x_t (i := 13) (oi := { dst := some 8, op := .assign (.tmp 31), .. }) (v := ?_) rfl (Or.inl ⟨by rfl, ?_⟩) ?_
   rotate_left 1
   ·intro v hSv
    clear hSv
    go_simp
    try with_reducible rfl
   try simp only [Act.put, x_A, x_0, x_1]
   refine wpAnyH_done (by kernel_rfl) ?_ _
   go_wp2_with fail
   go_ret
   exact ⟨u17, m17, rfl, HU.out, HMM.out, HHE.out, (Keep.of_below HBW.out).trans hb17⟩
theorem check18_c {M : World → Int → Tv → Prop} (pf : PfV M) (fo : FoV) (co : CoV) (w : World) (b : Nat) (n : Int) (m : Nat) (root : List UInt8) (R : Option Addr) (cr : Nat) (c : Cl) (A B : Option Addr) (ca cb : Nat) (bs : List UInt8) (D : Option Addr) (cd : Nat) (hh : Hs w b n m) (hm : m ≤ 400000) (hv : Vars w) (hE : Ft.ErrVar w) (hR : BA w R root) (hr : root.length ≤ cr) (hc : ClOk w c A ca B cb) (hD : BA w D bs) (hd : bs.length ≤ cd) (hd2 : bs.length ≤ 1000000) :
  Calls Tryz.prog 14 #[ptr b, .slice R root.length cr, .agg (clC c A ca B cb), .slice D bs.length cd] w fun e w' => ∃ m', e = .returned (.int .i64 (ckV n root c bs).2) ∧ m' ≤ m + 259 ∧ Hs w' b n m' ∧ Keep (fun i => i = b) w w' := by
 obtain ⟨X, hX⟩ : ∃ X, X = w.alloc (.cells (clC c A ca B cb) 24) := ⟨_, rfl⟩
 have hbX : Below w.heap.size w X := by rw [hX]; exact Bt.one_below _ _
 have hC : ClAt X w.heap.size c A ca B cb := by rw [hX]; exact ClAt.one _ _ _ _ _ _
 have lc := hC.ld
 have hHX : Hs X b n m := hh.keep (Keep.of_below (L := fun _ => False) hbX) id
 obtain ⟨ck, hck⟩ : ∃ ck, ck = ckV n root c bs := ⟨_, rfl⟩
 have hVF := verify18_c pf fo co X b n m root R cr c A B ca cb bs D cd hHX hm (hv.below hbX) (hR.below hbX) hr (hc.below hbX) (hD.below hbX) hd hd2
 rw [← hck] at hVF ⊢
 have HVF := Lib.hid hVF
 rw [hX] at lc
 have HX := Lib.hid hX
 have HBX := Lib.hid hbX
 have HE := Lib.hid (hE.below hbX)
 have HHX := Lib.hid hHX
 clear hX hbX hC hHX hck hVF hh hm hv hE hR hr hc hD hd hd2
 unfold ptr at *
 go_enter Tryz.func14, Tryz.ntmps14
 go_wp2_with fail
 rw [← HX.out]
 refine HVF.out.mono ?_
 rintro _ w1 ⟨u, m', rfl, hu, hm', hH', hK'⟩
 have HE1 := Lib.hid (errVar_hs18 HE.out HHX.out hK')
 have HO : Hid (Calls Tryz.prog 34 #[u] w1 fun e w' => e = .returned (.int .i64 ck.2) ∧ Below w1.heap.size w1 w') := by
  by_cases h : ck.2 = 0
  ·rw [hu.1 h, h]; exact errorOf_nil w1
  ·exact errorOf_some _ _ u w1 (hu.2 h) HE1.out
 have HM := Lib.hid hm'
 have HH := Lib.hid hH'
 have HK := Lib.hid hK'
 clear hu hm' hH' hK' HVF lc
 go_wp2_with fail
 refine HO.out.mono ?_
 rintro _ w2 ⟨rfl, hb2⟩
 have HB2 := Lib.hid hb2
 clear hb2 HO
 go_wp2_with fail
 go_ret
 exact ⟨m', rfl, HM.out, HH.out.keep (Keep.of_below (L := fun _ => False) HB2.out) id, (Keep.of_below HBX.out).trans (HK.out.trans (Keep.of_below HB2.out))⟩
end
section
open Go.RowKit
theorem ve_c : VeV where
 check := fun w b n m root R cr c A B ca cb bs D cd hh hm hv hE hR hr hc hD hd hd2 => check18_c pf_c fo_c co_c w b n m root R cr c A B ca cb bs D cd hh hm hv hE hR hr hc hD hd hd2
 verify := fun w b n m root R cr c A B ca cb bs D cd hh hm hv hR hr hc hD hd hd2 => (verify18_c pf_c fo_c co_c w b n m root R cr c A B ca cb bs D cd hh hm hv hR hr hc hD hd hd2).mono fun _ _ ⟨x, m', h1, h2, h3, h4, h5⟩ => ⟨x, m', h1, h2.1, h2.2, h3, h4, h5⟩
 claim := fun w c A B ca cb hE => claim18_c c A B ca cb w hE
 accepts := fun w b n m root c A B ca cb p D cd hh hm hv hr hc hp hD hd hd2 => accepts18_c pf_c fo_c w b n m root c A B ca cb p D cd hh hm hv hr hc hp hD hd hd2
end
end Go.Proofs.YtjgdindjimbfeaaGreatDoor
