import Derived.Test.YtjgdindjimbfeaaGreatDoorSA
import Derived.Test.YtjgdindjimbfeaaGreatDoorTM
import Derived.Test.YtjgdindjimbfeaaGreatDoorAD
import Derived.Test.YtjgdindjimbfeaaGreatDoorMP
import Derived.Test.YtjgdindjimbfeaaGreatDoorSl
import Derived.Test.YtjgdindjimbfeaaGreatDoorCA
namespace Go.Proofs.YtjgdindjimbfeaaGreatDoor
set_option linter.unusedSimpArgs false
set_option linter.unusedVariables false
set_option maxHeartbeats 8000000
set_option maxRecDepth 100000
section
open Go.RowKit
theorem bldLeaf_k_f (f : Nat → UInt8) (w : World) : bldA 50 w #[(0, .agg (bA ((List.range 32).map f)))] = .ok (.value (.agg (bA ((List.range 32).map f ++ z26)))) w := by kernel_rfl
theorem bldLeaf_k (k : List UInt8) (hk : k.length = 32) (w : World) : bldA 50 w #[(0, .agg (bA k))] = .ok (.value (.agg (bA (k ++ z26)))) w := by
 have := bldLeaf_k_f (fun j => k.getD j 0) w
 rwa [← list32 k hk] at this
theorem ldKey18 {w : World} {A : Option Addr} {l : List UInt8} (h : BA w A l) (hl : l.length = 32) : ∃ g o, A = some ⟨g, o, none⟩ ∧ ldA 48 w (.pointer (some ⟨g, o, none⟩)) = .ok (.value (.agg (bA l))) w := by
 obtain ⟨g, o, rfl, _⟩ := h 0 _ (List.getElem?_eq_getElem (show 0 < l.length by omega))
 refine ⟨g, o, rfl, ?_⟩
 have := h.ld (p := 0) (n := 32) (t := 48) (by omega) Tryz.underlying48 infoKey
 rw [List.drop_zero, List.take_of_length_le (by omega)] at this
 exact this
theorem leafKey18 {w : World} {g : Nat} {k d : List UInt8} (h : RowB w g 50 (k ++ d)) (hk : k.length = 32) : ldA 48 w (.pointer (some ⟨g, 0, none⟩)) = .ok (.value (.agg (bA k))) w := by
 have := (BA_row h).ld (p := 0) (n := 32) (t := 48) (by rw [List.length_append]; omega) Tryz.underlying48 infoKey
 rwa [List.drop_zero, List.take_left' hk] at this
theorem leafVal18 {w : World} {g : Nat} {k d : List UInt8} (h : RowB w g 50 (k ++ d)) (hk : k.length = 32) (hd : d.length = 32) : ldA 47 w (.pointer (some ⟨g, 32, none⟩)) = .ok (.value (.agg (bA d))) w := by
 have := (BA_row h).ld (p := 32) (n := 32) (t := 47) (by rw [List.length_append]; omega) Tryz.underlying47 info26
 rwa [List.drop_left' hk, List.take_of_length_le (by omega)] at this
theorem supports18_c {M : World → Int → Tv → Prop} (pf : PfV M) (b : Nat) (n : Int) (m : Nat) (p : Pf) (D : Option Addr) (cd : Nat) (c : Cl) (A B : Option Addr) (ca cb : Nat) (w : World) (hh : Hs w b n m) (hm : m ≤ 500000) (hv : Vars w) (hp : p.Ok) (hc : ClOk w c A ca B cb) (hk : c.k.length = 32) (hl : c.pr = true → c.v.length ≤ 65535) :
  Calls Tryz.prog 70 #[ptr b, .agg (pfC p (.slice D p.sib.length cd)), .agg (clC c A ca B cb)] w fun e w' => ∃ m', e = .returned (.bool (supP p c.k (valD n c) c.pr)) ∧ m' ≤ m + 1 ∧ Hs w' b n m' ∧ Keep (fun i => i = b) w w' := by
 obtain ⟨X, hX⟩ : ∃ X, X = (w.alloc (.cells (pfC p (.slice D p.sib.length cd)) 53)).alloc (.cells (clC c A ca B cb) 24) := ⟨_, rfl⟩
 have hbX : Below w.heap.size w X := by rw [hX]; exact Bt.two_below _ _ _
 have hzX : X.heap.size = w.heap.size + 1 + 1 := by rw [hX]; simp
 have hP : PfAt X w.heap.size p (.slice D p.sib.length cd) := by rw [hX]; exact heap_alloc2_old w _ _
 have hC : ClAt X (w.heap.size + 1) c A ca B cb := by rw [hX]; exact heap_alloc2_new w _ _
 obtain ⟨kg, ko, rfl, lk⟩ := ldKey18 (hc.key.below hbX) hk
 have aa := fun w => arr_at (t := 48) Tryz.underlying48 (some ⟨kg, ko, none⟩) c.k.length ca (by omega) w
 obtain ⟨Y, hY⟩ : ∃ Y, Y = X.alloc (.cells (bA (c.k ++ z26)) 50) := ⟨_, rfl⟩
 have hbY : Below X.heap.size X Y := by rw [hY]; exact Bt.one_below _ _
 have hKZ : (c.k ++ z26).length = 64 := by rw [List.length_append, hk]; rfl
 have st := stA_new (t := 50) X (bA z64) (bA (c.k ++ z26)) (by rw [bA_size, hKZ]; exact infoLeaf) (by rw [bA_size, bA_size, hKZ]; rfl) (bA_one _)
 have bl := fun w => bldLeaf_k c.k hk w
 have hR : RowB Y (w.heap.size + 1 + 1) 50 (c.k ++ z26) := by show _ = _; rw [hY, ← hzX]; exact heap_alloc_new _ _
 rw [hzX] at st
 have c0 := hC.k
 have hbW : Below w.heap.size w Y := hbX.trans (hbY.mono hbX.size)
 have hCY := hC.below hbY (by omega)
 have hPY := hP.below hbY (by omega)
 have c2 := hCY.pr
 have c1 := hCY.v
 have lk3 := leafKey18 hR hk
 have lv3 := leafVal18 hR hk (d := z26) rfl
 have lp3 := hPY.ld hp
 rw [hX] at c0 lk st
 rw [hY, hX] at c2 c1 lk3 lv3 lp3
 have HX := Lib.hid hX
 have HY := Lib.hid hY
 have HC := Lib.hid hCY
 have HP := Lib.hid hPY
 have HR := Lib.hid hR
 have HBW := Lib.hid hbW
 have HH := Lib.hid (hh.keep (Keep.of_below (L := fun _ => False) hbW) id)
 have HV := Lib.hid (hv.below hbW)
 have HO := Lib.hid (hc.below hbW)
 have HZ := Lib.hid hzX
 have HK := Lib.hid hk
 have HL := Lib.hid hl
 have HPO := Lib.hid hp
 have HBN := Lib.hid (show b < w.heap.size from lt_of_heap hh)
 have HPF := Lib.hid pf
 have HM := Lib.hid hm
 clear hX hY hC hP hR hbX hbY hbW hCY hPY hKZ hh hv hc hzX hk hl hp pf hm
 unfold ptr
 cases hq : c.pr with
 | true =>
  rw [hq] at c2
  have HQ := Lib.hid hq
  clear hq
  go_enter Tryz.func70, Tryz.ntmps70
  clear lv3 lp3
  obtain ⟨vd, hvd⟩ : ∃ vd, vd = digL n (valL c.v) := ⟨_, rfl⟩
  have hvl : vd.length = 32 := by rw [hvd]; exact dig_len _ _
  have hLO := leafof_big b n m c.k B cb c.v Y HH.out (by have := HM.out; omega) HK.out HO.out.val HO.out.vc (by have := HL.out HQ.out; omega) HV.out
  rw [← hvd] at hLO
  have HLO := Lib.hid hLO
  have HVD : Hid (vd = valD n c) := by show _ = _; unfold valD; rw [HQ.out, hvd]; rfl
  have HVL := Lib.hid hvl
  unfold ptr at HLO
  clear hLO hvl hvd
  go_wp2_with fail
  rw [← HX.out, ← HY.out]
  refine HLO.out.mono ?_
  rintro _ w2 ⟨rfl, hH2, hK2⟩
  have hR2 : RowB w2 (w.heap.size + 1 + 1) 50 (c.k ++ z26) := HR.out.keep hK2 (by have := HBN.out; omega)
  have st2 := stA_row (t := 50) (v := bA (c.k ++ vd)) hR2 (by rw [bA_size, List.length_append, HK.out, HVL.out]; exact infoLeaf) (by rw [bA_size, bA_size, List.length_append, List.length_append, HVL.out]; rfl) (bA_one _)
  obtain ⟨Z, hZ⟩ : ∃ Z, Z = w2.setRow (w.heap.size + 1 + 1) (bA (c.k ++ vd)) := ⟨_, rfl⟩
  rw [← hZ] at st2
  have hKZ : Keep (fun i => i = w.heap.size + 1 + 1) w2 Z := by rw [hZ]; exact Keep.row _ _ _
  have hRZ : RowB Z (w.heap.size + 1 + 1) 50 (c.k ++ vd) := by show Z.heap[w.heap.size + 1 + 1]? = _; rw [hZ]; exact setRow_heap _ _ _ _ _ _ hR2
  have hKW : Keep (fun i => i = b) w w2 := ((Keep.of_below (L := fun i => i = b) HBW.out).trans hK2)
  have HKW : Hid (Keep (fun i => i = b) w Z) := hKW.step hKZ fun i hi => .inr (by have e : i = w.heap.size + 1 + 1 := hi; omega)
  have HHZ : Hid (Hs Z b n (m + 1)) := hH2.keep hKZ (by have := HBN.out; show ¬ (b = _); omega)
  have hPZ : PfAt Z w.heap.size p (.slice D p.sib.length cd) := (HP.out.keep hK2 (by have := HBN.out; omega)).keep hKZ (by show ¬ (_ = _); omega)
  have hCZ : ClAt Z (w.heap.size + 1) c (some ⟨kg, ko, none⟩) ca B cb := hKZ.heap (hK2.heap HC.out (by have := HBN.out; omega)) (by show ¬ (_ = _); omega)
  have c4 := hCZ.pr
  rw [HQ.out] at c4
  have lk4 := leafKey18 hRZ HK.out
  have lv4 := leafVal18 hRZ HK.out HVL.out
  have lp4 := hPZ.ld HPO.out
  have HSU := Lib.hid (HPF.out.supports Z p D cd c.k vd true HPO.out HK.out HVL.out)
  clear hH2 hK2 hR2 hZ hKZ hRZ hPZ hCZ hKW HLO c1 c2 lk3 st
  go_wp2_with fail
  refine HSU.out.mono ?_
  rintro _ w4 ⟨rfl, hb4⟩
  have HB4 := Lib.hid hb4
  clear hb4 HSU lk4 lv4 lp4 c4
  go_wp2_with fail
  go_ret
  exact ⟨_, by rw [← HVD.out]; rfl, Nat.le_refl _, HHZ.out.keep (Keep.of_below (L := fun _ => False) HB4.out) id, HKW.out.trans (Keep.of_below HB4.out)⟩
 | false =>
  rw [hq] at c2
  have HQ := Lib.hid hq
  clear hq
  go_enter Tryz.func70, Tryz.ntmps70
  clear c1
  have HVD : Hid (z26 = valD n c) := by show _ = _; unfold valD; rw [HQ.out]; rfl
  have HSU := Lib.hid (HPF.out.supports Y p D cd c.k z26 false HPO.out HK.out rfl)
  go_wp2_with fail
  rw [← HX.out, ← HY.out]
  refine HSU.out.mono ?_
  rintro _ w4 ⟨rfl, hb4⟩
  have HB4 := Lib.hid (keeps HBW.out hb4)
  have HH4 := Lib.hid (HH.out.keep (Keep.of_below (L := fun _ => False) hb4) id)
  clear hb4 HSU
  go_wp2_with fail
  go_ret
  exact ⟨_, by rw [← HVD.out]; rfl, Nat.le_succ _, HH4.out, Keep.of_below HB4.out⟩
end
section
open Go.RowKit
theorem leads18_c (fo : FoV) (b : Nat) (n : Int) (m : Nat) (p : Pf) (D : Option Addr) (cd : Nat) (c : Cl) (A B : Option Addr) (ca cb : Nat) (root : List UInt8) (R : Option Addr) (cr : Nat) (w : World) (hh : Hs w b n m) (hm : m ≤ 500000) (hv : Vars w) (hp : p.Ok) (hD : DS w D p.sib) (hd : p.sib.length ≤ cd) (hd2 : p.sib.length ≤ 1000000) (h0 : chkP p = 0) (hc : ClOk w c A ca B cb) (hk : c.k.length = 32) (hR : BA w R root) :
  Calls Tryz.prog 72 #[ptr b, .agg (pfC p (.slice D p.sib.length cd)), .agg (clC c A ca B cb), .slice R root.length cr] w fun e w' => ∃ m', e = .returned (.bool (decide (rootP n p c.k = root))) ∧ m' ≤ m + (p.dep.toNat + 2) ∧ Hs w' b n m' ∧ Keep (fun i => i = b) w w' := by
 obtain ⟨X, hX⟩ : ∃ X, X = (w.alloc (.cells (pfC p (.slice D p.sib.length cd)) 53)).alloc (.cells (clC c A ca B cb) 24) := ⟨_, rfl⟩
 have hbX : Below w.heap.size w X := by rw [hX]; exact Bt.two_below _ _ _
 have hzX : X.heap.size = w.heap.size + 1 + 1 := by rw [hX]; simp
 have hP : PfAt X w.heap.size p (.slice D p.sib.length cd) := by rw [hX]; exact heap_alloc2_old w _ _
 have hC : ClAt X (w.heap.size + 1) c A ca B cb := by rw [hX]; exact heap_alloc2_new w _ _
 have hbn : b < w.heap.size := lt_of_heap hh
 obtain ⟨kg, ko, hA, _⟩ := ldKey18 (hc.key.below hbX) hk
 subst hA
 have aa := fun w => arr_at (t := 48) Tryz.underlying48 (some ⟨kg, ko, none⟩) c.k.length ca (by omega) w
 obtain ⟨rt, hrt⟩ : ∃ rt, rt = rootP n p c.k := ⟨_, rfl⟩
 have hrl : rt.length = 32 := by rw [hrt]; exact dig_len _ _
 have hHX : Hs X b n m := hh.keep (Keep.of_below (L := fun _ => False) hbX) id
 have LP : Hid (∀ w', Keep (fun i => i = b) X w' → ldA 53 w' (.pointer (some ⟨w.heap.size, 0, none⟩)) = .ok (.value (.agg (pfC p (.slice D p.sib.length cd)))) w') := fun w' h => (hP.keep h (by omega)).ld hp
 have LC : Hid (∀ w', Keep (fun i => i = b) X w' → w'.cell? ⟨w.heap.size + 1, 0, none⟩ = some (.slice (some ⟨kg, ko, none⟩) c.k.length ca)) := fun w' h => (show ClAt w' (w.heap.size + 1) c _ ca B cb from h.heap hC (by omega)).k
 have LK : Hid (∀ w', Keep (fun i => i = b) X w' → ldA 48 w' (.pointer (some ⟨kg, ko, none⟩)) = .ok (.value (.agg (bA c.k))) w') := fun w' h => by
  obtain ⟨g, o, e, h1⟩ := ldKey18 ((hc.key.below hbX).hs16 hHX h) hk
  cases e; exact h1
 have HRO : Hid (∀ w', Keep (fun i => i = b) X w' → Hs w' b n m → Calls Tryz.prog 109 #[ptr b, .agg (pfC p (.slice D p.sib.length cd)), .agg (bA c.k)] w' fun e w'' => ∃ m', e = .returned (.tuple #[.agg (bA rt), .int .i64 0]) ∧ m' ≤ m + (p.dep.toNat + 2) ∧ Hs w'' b n m' ∧ Keep (fun i => i = b) w' w'') := fun w' h hs => by
  rw [hrt]
  exact fo.root w' b n m p D cd c.k hs (by omega) ((hv.below hbX).hs hHX h) hp ((hD.below hbX).hs hHX h) hd hd2 hk h0
 have HBR : Hid (∀ w', Keep (fun i => i = b) X w' → BA w' R root) := fun w' h => (hR.below hbX).hs16 hHX h
 have HRL := Lib.hid hrl
 have HRT := Lib.hid hrt
 have HBX := Lib.hid hbX
 have HH := Lib.hid hHX
 have HX := Lib.hid hX
 have HZX := Lib.hid hzX
 have HBN := Lib.hid hbn
 rw [← hrt]
 clear hX hzX hbX hP hC hbn hc hk hrt hrl hHX hh hm hv hp hD hd hd2 h0 hR
 unfold ptr at *
 go_enter Tryz.func72, Tryz.ntmps72
 go_wp2_with fail
 rw [← HX.out]
 have HD0 : Hid (Hs X.drew b n m) := HH.out.keep (Keep.of_below (L := fun _ => False) (Below.refl _ _).drew) id
 refine wp_region_held_drew (S := fun w' => Keep (fun i => i = b) X w') (by kernel_rfl) ((Keep.refl _ _).drew) (fun hHeld => ?_)
 have hb0 : Keep (fun i => i = b) X X.drew := (Keep.refl _ _).drew
 refine x_t (i := 0) (oi := { dst := some 12, op := .move (.tmp 0), .. }) (v := ?_) rfl (Or.inl ⟨by rfl, ?_⟩) ?_
 rotate_left 1
 ·intro v hSv
  clear hSv
  go_simp
  try with_reducible rfl
 try simp only [Act.put, x_A, x_0, x_1]
 refine x_t (i := 1) (oi := { dst := some 13, op := .load _ (.tmp 5), .. }) (v := ?_) rfl (Or.inl ⟨by rfl, ?_⟩) ?_
 rotate_left 1
 ·intro v hSv
  have hv1 := LP.out v hSv
  clear hSv
  go_simp
  try with_reducible rfl
 try simp only [Act.put, x_A, x_0, x_1]
 refine x_t (i := 2) (oi := { dst := some 14, op := .fieldAddr _ (.tmp 6) 0, .. }) (v := ?_) rfl (Or.inl ⟨by rfl, ?_⟩) ?_
 rotate_left 1
 ·intro v hSv
  clear hSv
  go_simp
  try with_reducible rfl
 try simp only [Act.put, x_A, x_0, x_1]
 refine x_t (i := 3) (oi := { dst := some 15, op := .load _ (.tmp 14), .. }) (v := ?_) rfl (Or.inl ⟨by rfl, ?_⟩) ?_
 rotate_left 1
 ·intro v hSv
  have hv1 := LC.out v hSv
  clear hSv
  go_simp
  try with_reducible rfl
 try simp only [Act.put, x_A, x_0, x_1]
 refine x_t (i := 4) (oi := { dst := some 16, op := .sliceToArrayPointer _ (.tmp 15), .. }) (v := ?_) rfl (Or.inl ⟨by rfl, ?_⟩) ?_
 rotate_left 1
 ·intro v hSv
  clear hSv
  go_simp
  try with_reducible rfl
 try simp only [Act.put, x_A, x_0, x_1]
 refine x_t (i := 5) (oi := { dst := some 17, op := .load _ (.tmp 16), .. }) (v := ?_) rfl (Or.inl ⟨by rfl, ?_⟩) ?_
 rotate_left 1
 ·intro v hSv
  have hv1 := LK.out v hSv
  clear hSv
  go_simp
  try with_reducible rfl
 try simp only [Act.put, x_A, x_0, x_1]
 refine wpAnyH_ready (rs := [6, 10]) (by kernel_rfl) (by simp) ?_
 refine AllReadyH.cons (o := { dst := some 18, op := .call _, .. }) rfl (fun K hK => ?_) (AllReadyH.cons (o := { dst := some 9, op := .alloc _, .. }) rfl (fun K hK => ?_) (AllReadyH.nil))
 ·skip
  go_simp
  refine (HRO.out _ hb0 HD0.out).mono ?_
  rintro e y1 ⟨m1, rfl, hm1, hH1, hb⟩
  have hb1 : Keep (fun i => i = b) X y1 := (hb0).trans hb
  have HQ1 := Lib.hid hH1
  have HM1 := Lib.hid hm1
  clear hH1 hm1
  clear hb
  go_wp2_with fail
  refine hK.out _ _ (hb1) (fun hHeld => ?_)
  clear hK K
  try simp only [Act.put, x_A, x_0, x_1]
  refine x_t (i := 7) (oi := { dst := some 11, op := .move (.tmp 18), .. }) (v := ?_) rfl (Or.inl ⟨by rfl, ?_⟩) ?_
  rotate_left 1
  ·intro v hSv
   clear hSv
   go_simp
   try with_reducible rfl
  try simp only [Act.put, x_A, x_0, x_1]
  refine x_t (i := 8) (oi := { dst := some 19, op := .extract (.tmp 11) 0, .. }) (v := ?_) rfl (Or.inl ⟨by rfl, ?_⟩) ?_
  rotate_left 1
  ·intro v hSv
   clear hSv
   go_simp
   try with_reducible rfl
  try simp only [Act.put, x_A, x_0, x_1]
  refine x_t (i := 9) (oi := { dst := some 20, op := .extract (.tmp 11) 1, .. }) (v := ?_) rfl (Or.inl ⟨by rfl, ?_⟩) ?_
  rotate_left 1
  ·intro v hSv
   clear hSv
   go_simp
   try with_reducible rfl
  try simp only [Act.put, x_A, x_0, x_1]
  refine wpAnyH_ready (rs := [10]) (by kernel_rfl) (by simp) ?_
  refine AllReadyH.cons (o := { dst := some 9, op := .alloc _, .. }) rfl (fun K hK => ?_) AllReadyH.nil
  go_simp
  obtain ⟨y2, hy2⟩ : ∃ y, y = y1.alloc (.cells (bA z26) 47) := ⟨_, rfl⟩
  rw [← hy2]
  have hb2 : Keep (fun i => i = b) X y2 := by rw [hy2]; exact (hb1).alloc _
  have HR2 : Hid (RowB y2 y1.heap.size 47 z26) := by show _ = _; rw [hy2]; exact heap_alloc_new y1 _
  have HG2 : Hid (X.heap.size ≤ y1.heap.size) := (hb1).size
  have HQ2 : Hid (Hs y2 b n m1) := by show Hs _ _ _ _; rw [hy2]; exact HQ1.out.keep ((Keep.refl (fun _ => False) _).alloc _) id
  clear hy2
  refine hK.out _ _ (hb2) (fun hHeld => ?_)
  clear hK K
  try simp only [Act.put, x_A, x_0, x_1]
  refine wpAnyH_ready (rs := [11]) (by kernel_rfl) (by simp) ?_
  refine AllReadyH.cons (o := { dst := none, op := .store _ (.tmp 9) (.tmp 19), .. }) rfl (fun K hK => ?_) AllReadyH.nil
  have sb := stA_row (t := 47) (v := bA rt) HR2.out (by rw [bA_size, HRL.out]; exact info26) (by rw [bA_size, bA_size, HRL.out]; rfl) (bA_one _)
  obtain ⟨Z, hZ⟩ : ∃ Z, Z = y2.setRow (y1.heap.size) (bA rt) := ⟨_, rfl⟩
  rw [← hZ] at sb
  have HRZ : Hid (RowB Z (y1.heap.size) 47 rt) := by show Z.heap[y1.heap.size]? = _; rw [hZ]; exact setRow_heap _ _ _ _ _ _ HR2.out
  have hkZ : Keep (fun i => i = y1.heap.size) y2 Z := by rw [hZ]; exact Keep.row _ _ _
  have hcZ : Keep (fun i => i = b) X Z := (hb2).step hkZ fun i hi => .inr (by have e : i = y1.heap.size := hi; have := HG2.out; omega)
  have HHZ : Hid (Hs Z b n m1) := HQ2.out.keep hkZ (by have := HG2.out; have := HBN.out; have := HZX.out; show ¬ (b = _); omega)
  clear hZ
  go_simp
  refine hK.out _ _ (hcZ) (fun hHeld => ?_)
  clear hK K
  try simp only [Act.put, x_A, x_0, x_1]
  refine x_t (i := 12) (oi := { dst := some 10, op := .assign (.tmp 20), .. }) (v := ?_) rfl (Or.inl ⟨by rfl, ?_⟩) ?_
  rotate_left 1
  ·intro v hSv
   clear hSv
   go_simp
   try with_reducible rfl
  try simp only [Act.put, x_A, x_0, x_1]
  refine wpAnyH_done (by kernel_rfl) ?_ _
  have HKZ := Lib.hid hcZ
  have HBE := Lib.hid (equal18_c (some ⟨y1.heap.size, 0, none⟩) R 32 cr rt root Z (BA_row HRZ.out) (HBR.out Z hcZ))
  rw [HRL.out] at HBE
  have s1 := fun w => sl_all (t := 47) (n := 32) Tryz.underlying47 (by kernel_rfl) (by kernel_rfl) (by decide) (y1.heap.size) 0 w
  clear hcZ hkZ sb
  go_wp2_with fail
  refine HBE.out.mono ?_
  rintro _ w9 ⟨rfl, rfl⟩
  go_wp2
  go_ret
  exact ⟨_, rfl, HM1.out, HHZ.out, (Keep.of_below HBX.out).trans HKZ.out⟩
 ·skip
  go_simp
  obtain ⟨y3, hy3⟩ : ∃ y, y = (X.alloc (.cells (bA z26) 47)).drew := ⟨_, rfl⟩
  rw [← hy3]
  have hb3 : Keep (fun i => i = b) X y3 := by rw [hy3]; exact ((Keep.refl _ _).alloc _).drew
  have HR3 : Hid (RowB y3 X.heap.size 47 z26) := by show _ = _; rw [hy3]; exact heap_alloc_new X _
  have HG3 : Hid (X.heap.size ≤ X.heap.size) := Nat.le_refl _
  have HQ3 : Hid (Hs y3 b n m) := by show Hs _ _ _ _; rw [hy3]; exact HH.out.keep ((Keep.refl (fun _ => False) _).alloc _).drew id
  clear hy3
  refine hK.out _ _ (hb3) (fun hHeld => ?_)
  clear hK K
  try simp only [Act.put, x_A, x_0, x_1]
  refine wpAnyH_ready (rs := [6]) (by kernel_rfl) (by simp) ?_
  refine AllReadyH.cons (o := { dst := some 18, op := .call _, .. }) rfl (fun K hK => ?_) AllReadyH.nil
  go_simp
  refine (HRO.out _ hb3 HQ3.out).mono ?_
  rintro e y4 ⟨m4, rfl, hm4, hH4, hb⟩
  have hb4 : Keep (fun i => i = b) X y4 := (hb3).trans hb
  have HQ4 := Lib.hid hH4
  have HM4 := Lib.hid hm4
  clear hH4 hm4
  have HR4 : Hid (RowB y4 (X.heap.size) 47 z26) := HR3.out.keep hb (by have := HG3.out; have := HBN.out; have := HZX.out; show ¬ (_ = b); omega)
  clear hb
  go_wp2_with fail
  refine hK.out _ _ (hb4) (fun hHeld => ?_)
  clear hK K
  try simp only [Act.put, x_A, x_0, x_1]
  refine x_t (i := 7) (oi := { dst := some 11, op := .move (.tmp 18), .. }) (v := ?_) rfl (Or.inl ⟨by rfl, ?_⟩) ?_
  rotate_left 1
  ·intro v hSv
   clear hSv
   go_simp
   try with_reducible rfl
  try simp only [Act.put, x_A, x_0, x_1]
  refine x_t (i := 8) (oi := { dst := some 19, op := .extract (.tmp 11) 0, .. }) (v := ?_) rfl (Or.inl ⟨by rfl, ?_⟩) ?_
  rotate_left 1
  ·intro v hSv
   clear hSv
   go_simp
   try with_reducible rfl
  try simp only [Act.put, x_A, x_0, x_1]
  refine x_t (i := 9) (oi := { dst := some 20, op := .extract (.tmp 11) 1, .. }) (v := ?_) rfl (Or.inl ⟨by rfl, ?_⟩) ?_
  rotate_left 1
  ·intro v hSv
   clear hSv
   go_simp
   try with_reducible rfl
  try simp only [Act.put, x_A, x_0, x_1]
  refine wpAnyH_ready (rs := [11]) (by kernel_rfl) (by simp) ?_
  refine AllReadyH.cons (o := { dst := none, op := .store _ (.tmp 9) (.tmp 19), .. }) rfl (fun K hK => ?_) AllReadyH.nil
  have sb := stA_row (t := 47) (v := bA rt) HR4.out (by rw [bA_size, HRL.out]; exact info26) (by rw [bA_size, bA_size, HRL.out]; rfl) (bA_one _)
  obtain ⟨Z, hZ⟩ : ∃ Z, Z = y4.setRow (X.heap.size) (bA rt) := ⟨_, rfl⟩
  rw [← hZ] at sb
  have HRZ : Hid (RowB Z (X.heap.size) 47 rt) := by show Z.heap[X.heap.size]? = _; rw [hZ]; exact setRow_heap _ _ _ _ _ _ HR4.out
  have hkZ : Keep (fun i => i = X.heap.size) y4 Z := by rw [hZ]; exact Keep.row _ _ _
  have hcZ : Keep (fun i => i = b) X Z := (hb4).step hkZ fun i hi => .inr (by have e : i = X.heap.size := hi; have := HG3.out; omega)
  have HHZ : Hid (Hs Z b n m4) := HQ4.out.keep hkZ (by have := HG3.out; have := HBN.out; have := HZX.out; show ¬ (b = _); omega)
  clear hZ
  go_simp
  refine hK.out _ _ (hcZ) (fun hHeld => ?_)
  clear hK K
  try simp only [Act.put, x_A, x_0, x_1]
  refine x_t (i := 12) (oi := { dst := some 10, op := .assign (.tmp 20), .. }) (v := ?_) rfl (Or.inl ⟨by rfl, ?_⟩) ?_
  rotate_left 1
  ·intro v hSv
   clear hSv
   go_simp
   try with_reducible rfl
  try simp only [Act.put, x_A, x_0, x_1]
  refine wpAnyH_done (by kernel_rfl) ?_ _
  have HKZ := Lib.hid hcZ
  have HBE := Lib.hid (equal18_c (some ⟨X.heap.size, 0, none⟩) R 32 cr rt root Z (BA_row HRZ.out) (HBR.out Z hcZ))
  rw [HRL.out] at HBE
  have s1 := fun w => sl_all (t := 47) (n := 32) Tryz.underlying47 (by kernel_rfl) (by kernel_rfl) (by decide) (X.heap.size) 0 w
  clear hcZ hkZ sb
  go_wp2_with fail
  refine HBE.out.mono ?_
  rintro _ w9 ⟨rfl, rfl⟩
  go_wp2
  go_ret
  exact ⟨_, rfl, HM4.out, HHZ.out, (Keep.of_below HBX.out).trans HKZ.out⟩
end
section
open Go.RowKit
noncomputable def bsSp (w : World) (n : Nat) (parts : Array (Nat × Value)) : Result Next := Sem.run Tryz.prog (do pure (.value (← Instr.buildSlice 88 n parts))) w
@[go_sem ↓] theorem execOp_buildSliceSp (ρ : Operand → Value) (dst : Option Tmp) (n : Nat) (parts : Array (Nat × Operand)) (type : TypeId) (pos : String) (after : Array Edge) (guard : Option (Nat × Bool)) (w : World) :
  Sem.run Tryz.prog (execOp ρ { dst, op := .buildSlice 88 n parts, type, pos, after, guard }) w = bsSp w n (parts.map fun x => (x.1, ρ x.2)) := rfl
theorem bsSp_1 (x : Sp) (w : World) : bsSp w 1 #[(0, .agg (spC x))] = .ok (.value (.slice (some ⟨w.heap.size, 0, none⟩) 1 1)) (w.alloc (.cells #[.int .i64 x.n, spF x] 86)) := by kernel_rfl
theorem bsSp_2 (x y : Sp) (w : World) : bsSp w 2 #[(0, .agg (spC x)), (1, .agg (spC y))] = .ok (.value (.slice (some ⟨w.heap.size, 0, none⟩) 2 2)) (w.alloc (.cells #[.int .i64 x.n, spF x, .int .i64 y.n, spF y] 86)) := by kernel_rfl
theorem bsSp_3 (x y z : Sp) (w : World) : bsSp w 3 #[(0, .agg (spC x)), (1, .agg (spC y)), (2, .agg (spC z))] = .ok (.value (.slice (some ⟨w.heap.size, 0, none⟩) 3 3)) (w.alloc (.cells #[.int .i64 x.n, spF x, .int .i64 y.n, spF y, .int .i64 z.n, spF z] 86)) := by kernel_rfl
noncomputable def bsSq (w : World) (n : Nat) (parts : Array (Nat × Value)) : Result Next := Sem.run Tryz.prog (do pure (.value (← Instr.buildSlice 127 n parts))) w
@[go_sem ↓] theorem execOp_buildSliceSq (ρ : Operand → Value) (dst : Option Tmp) (n : Nat) (parts : Array (Nat × Operand)) (type : TypeId) (pos : String) (after : Array Edge) (guard : Option (Nat × Bool)) (w : World) :
  Sem.run Tryz.prog (execOp ρ { dst, op := .buildSlice 127 n parts, type, pos, after, guard }) w = bsSq w n (parts.map fun x => (x.1, ρ x.2)) := rfl
theorem bsSq_2 (A B : Option Addr) (k l c d : Nat) (w : World) : bsSq w 2 #[(0, .slice A k c), (1, .slice B l d)] = .ok (.value (.slice (some ⟨w.heap.size, 0, none⟩) 2 2)) (w.alloc (.cells #[.slice A k c, .slice B l d] 88)) := by kernel_rfl
theorem bsSq_3 (A B C : Option Addr) (k l m c d e : Nat) (w : World) : bsSq w 3 #[(0, .slice A k c), (1, .slice B l d), (2, .slice C m e)] = .ok (.value (.slice (some ⟨w.heap.size, 0, none⟩) 3 3)) (w.alloc (.cells #[.slice A k c, .slice B l d, .slice C m e] 88)) := by kernel_rfl
def csS (g : Nat) : List Sp := [⟨2, 66, #[.pointer (some ⟨g, 0, none⟩)]⟩, ⟨3, 67, #[.pointer (some ⟨g, 0, none⟩)]⟩]
theorem claimSteps_c (c : Cl) (A B : Option Addr) (ca cb : Nat) (w : World) :
  Calls Tryz.prog 39 #[.agg (clC c A ca B cb)] w fun e w' => ∃ g, w.heap.size ≤ g ∧ e = .returned (.slice (some ⟨g + 1, 0, none⟩) 2 2) ∧ SpA w' (some ⟨g + 1, 0, none⟩) (csS g) ∧ ClAt w' g c A ca B cb ∧ Below w.heap.size w w' := by
 obtain ⟨X, hX⟩ : ∃ X, X = w.alloc (.cells (clC c A ca B cb) 24) := ⟨_, rfl⟩
 have hbX : Below w.heap.size w X := by rw [hX]; exact Bt.one_below _ _
 have hzX : X.heap.size = w.heap.size + 1 := by rw [hX]; simp
 have hC : ClAt X w.heap.size c A ca B cb := by rw [hX]; exact ClAt.one _ _ _ _ _ _
 have b1 := fun w' => bldSp 2 66 #[.pointer (some ⟨w.heap.size, 0, none⟩)] w'
 have b2 := fun w' => bldSp 3 67 #[.pointer (some ⟨w.heap.size, 0, none⟩)] w'
 have bs := bsSp_2 ⟨2, 66, #[.pointer (some ⟨w.heap.size, 0, none⟩)]⟩ ⟨3, 67, #[.pointer (some ⟨w.heap.size, 0, none⟩)]⟩ X
 obtain ⟨Y, hY⟩ : ∃ Y, Y = X.alloc (.cells #[.int .i64 2, spF ⟨2, 66, #[.pointer (some ⟨w.heap.size, 0, none⟩)]⟩, .int .i64 3, spF ⟨3, 67, #[.pointer (some ⟨w.heap.size, 0, none⟩)]⟩] 86) := ⟨_, rfl⟩
 rw [← hY, hzX] at bs
 have hbY : Below X.heap.size X Y := by rw [hY]; exact Bt.one_below _ _
 have hS : SpA Y (some ⟨w.heap.size + 1, 0, none⟩) (csS w.heap.size) := by rw [hY, ← hzX]; exact sp_row X _ _ _ rfl
 have HS := Lib.hid hS
 have HC := Lib.hid (hC.below hbY (by omega))
 have HB := Lib.hid (hbX.trans (hbY.mono hbX.size))
 have HX := Lib.hid hX
 rw [hX] at bs
 clear hX hY hbX hbY hzX hC hS
 go_enter Tryz.func39, Tryz.ntmps39
 go_wp2_with fail
 go_ret
 exact ⟨_, Nat.le_refl _, rfl, HS.out, HC.out, HB.out⟩
def psS (s : Nat) (form : Int) : List Sp := [⟨form, 68, #[.pointer (some ⟨s + 4, 0, none⟩)]⟩, ⟨12, 69, #[.pointer (some ⟨s, 0, none⟩), .pointer (some ⟨s + 3, 0, none⟩), .pointer (some ⟨s + 2, 0, none⟩)]⟩,
 ⟨13, 71, #[.pointer (some ⟨s, 0, none⟩), .pointer (some ⟨s + 3, 0, none⟩), .pointer (some ⟨s + 2, 0, none⟩), .pointer (some ⟨s + 1, 0, none⟩)]⟩]
structure PB (w : World) (s b : Nat) (R : Option Addr) (rl cr : Nat) (c : Cl) (A B : Option Addr) (ca cb : Nat) (p : Pf) (D : Option Addr) (cd : Nat) (form : Int) : Prop where
 h : PtAt w s b
 r : SlAt w (s + 1) (.slice R rl cr)
 c : ClAt w (s + 2) c A ca B cb
 p : PfAt w (s + 3) p (.slice D p.sib.length cd)
 f : ErAt w (s + 4) form
theorem PB.keep {L : Nat → Prop} {w w' : World} {s b : Nat} {R : Option Addr} {rl cr : Nat} {c : Cl} {A B : Option Addr} {ca cb : Nat} {p : Pf} {D : Option Addr} {cd : Nat} {form : Int} (h : PB w s b R rl cr c A B ca cb p D cd form) (k : Keep L w w') (hL : ∀ i, s ≤ i → ¬ L i) : PB w' s b R rl cr c A B ca cb p D cd form :=
 ⟨k.heap h.h (hL _ (by omega)), k.heap h.r (hL _ (by omega)), k.heap h.c (hL _ (by omega)), k.heap h.p (hL _ (by omega)), k.heap h.f (hL _ (by omega))⟩
theorem proofSteps_c (b : Nat) (R : Option Addr) (rl cr : Nat) (c : Cl) (A B : Option Addr) (ca cb : Nat) (p : Pf) (D : Option Addr) (cd : Nat) (form : Int) (w : World) :
  Calls Tryz.prog 40 #[ptr b, .slice R rl cr, .agg (clC c A ca B cb), .agg (pfC p (.slice D p.sib.length cd)), .int .i64 form] w fun e w' => ∃ s, w.heap.size ≤ s ∧ e = .returned (.slice (some ⟨s + 5, 0, none⟩) 3 3) ∧ SpA w' (some ⟨s + 5, 0, none⟩) (psS s form) ∧ PB w' s b R rl cr c A B ca cb p D cd form ∧ Below w.heap.size w w' := by
 obtain ⟨s, hs⟩ : ∃ s, s = w.heap.size := ⟨_, rfl⟩
 obtain ⟨W1, hW1⟩ : ∃ W1, W1 = w.alloc (.cells #[ptr b] 29) := ⟨_, rfl⟩
 obtain ⟨W2, hW2⟩ : ∃ W2, W2 = W1.alloc (.cells #[.slice R rl cr] 22) := ⟨_, rfl⟩
 obtain ⟨W3, hW3⟩ : ∃ W3, W3 = W2.alloc (.cells (clC c A ca B cb) 24) := ⟨_, rfl⟩
 obtain ⟨W4, hW4⟩ : ∃ W4, W4 = W3.alloc (.cells (pfC p (.slice D p.sib.length cd)) 53) := ⟨_, rfl⟩
 obtain ⟨X, hX⟩ : ∃ X, X = W4.alloc (.cells #[.int .i64 form] 33) := ⟨_, rfl⟩
 have z1 : W1.heap.size = s + 1 := by rw [hW1, hs]; simp
 have z2 : W2.heap.size = s + 2 := by rw [hW2]; simp [z1]
 have z3 : W3.heap.size = s + 3 := by rw [hW3]; simp [z2]
 have z4 : W4.heap.size = s + 4 := by rw [hW4]; simp [z3]
 have z5 : X.heap.size = s + 5 := by rw [hX]; simp [z4]
 have b1 : Below w.heap.size w W1 := by rw [hW1]; exact Bt.one_below _ _
 have b2 : Below W1.heap.size W1 W2 := by rw [hW2]; exact Bt.one_below _ _
 have b3 : Below W2.heap.size W2 W3 := by rw [hW3]; exact Bt.one_below _ _
 have b4 : Below W3.heap.size W3 W4 := by rw [hW4]; exact Bt.one_below _ _
 have b5 : Below W4.heap.size W4 X := by rw [hX]; exact Bt.one_below _ _
 have hP : PB X s b R rl cr c A B ca cb p D cd form := by
  refine ⟨?_, ?_, ?_, ?_, ?_⟩
  ·show X.heap[s]? = _
   rw [b5.block _ (by omega), b4.block _ (by omega), b3.block _ (by omega), b2.block _ (by omega), hW1, hs]; exact heap_alloc_new _ _
  ·show X.heap[s + 1]? = _
   rw [b5.block _ (by omega), b4.block _ (by omega), b3.block _ (by omega), hW2, ← z1]; exact heap_alloc_new _ _
  ·show X.heap[s + 2]? = _
   rw [b5.block _ (by omega), b4.block _ (by omega), hW3, ← z2]; exact heap_alloc_new _ _
  ·show X.heap[s + 3]? = _
   rw [b5.block _ (by omega), hW4, ← z3]; exact heap_alloc_new _ _
  ·show X.heap[s + 4]? = _
   rw [hX, ← z4]; exact heap_alloc_new _ _
 have hbX : Below w.heap.size w X := b1.trans ((b2.trans ((b3.trans ((b4.trans (b5.mono b4.size)).mono b3.size)).mono b2.size)).mono b1.size)
 have f0 := hP.f.cell
 have k1 := fun w' => bldSp form 68 #[.pointer (some ⟨s + 4, 0, none⟩)] w'
 have k2 := fun w' => bldSp 12 69 #[.pointer (some ⟨s, 0, none⟩), .pointer (some ⟨s + 3, 0, none⟩), .pointer (some ⟨s + 2, 0, none⟩)] w'
 have k3 := fun w' => bldSp 13 71 #[.pointer (some ⟨s, 0, none⟩), .pointer (some ⟨s + 3, 0, none⟩), .pointer (some ⟨s + 2, 0, none⟩), .pointer (some ⟨s + 1, 0, none⟩)] w'
 obtain ⟨x1, hx1⟩ : ∃ x1 : Sp, x1 = ⟨form, 68, #[.pointer (some ⟨s + 4, 0, none⟩)]⟩ := ⟨_, rfl⟩
 obtain ⟨x2, hx2⟩ : ∃ x2 : Sp, x2 = ⟨12, 69, #[.pointer (some ⟨s, 0, none⟩), .pointer (some ⟨s + 3, 0, none⟩), .pointer (some ⟨s + 2, 0, none⟩)]⟩ := ⟨_, rfl⟩
 obtain ⟨x3, hx3⟩ : ∃ x3 : Sp, x3 = ⟨13, 71, #[.pointer (some ⟨s, 0, none⟩), .pointer (some ⟨s + 3, 0, none⟩), .pointer (some ⟨s + 2, 0, none⟩), .pointer (some ⟨s + 1, 0, none⟩)]⟩ := ⟨_, rfl⟩
 rw [← hx1] at k1
 rw [← hx2] at k2
 rw [← hx3] at k3
 have bs := bsSp_3 x1 x2 x3 X
 obtain ⟨Y, hY⟩ : ∃ Y, Y = X.alloc (.cells #[.int .i64 x1.n, spF x1, .int .i64 x2.n, spF x2, .int .i64 x3.n, spF x3] 86) := ⟨_, rfl⟩
 rw [← hY, z5] at bs
 have hbY : Below X.heap.size X Y := by rw [hY]; exact Bt.one_below _ _
 have hS : SpA Y (some ⟨s + 5, 0, none⟩) (psS s form) := by rw [hY, ← z5]; refine sp_row X _ _ _ ?_; rw [hx1, hx2, hx3]; rfl
 have HS := Lib.hid hS
 have HP := Lib.hid (hP.keep (Keep.of_below (L := fun _ => False) hbY) fun _ _ h => h)
 have HB := Lib.hid (hbX.trans (hbY.mono hbX.size))
 have HSS := Lib.hid hs
 rw [hX, hW4, hW3, hW2, hW1] at f0 bs
 have e1 : s + 1 = w.heap.size + 1 := by rw [hs]
 have e2 : s + 2 = w.heap.size + 1 + 1 := by rw [hs]
 have e3 : s + 3 = w.heap.size + 1 + 1 + 1 := by rw [hs]
 have e4 : s + 4 = w.heap.size + 1 + 1 + 1 + 1 := by rw [hs]
 have e5 : s + 5 = w.heap.size + 1 + 1 + 1 + 1 + 1 := by rw [hs]
 rw [e4] at f0 k1
 rw [e2, e3, hs] at k2
 rw [e1, e2, e3, hs] at k3
 rw [e5] at bs
 clear e1 e2 e3 e4 e5
 clear hs hX hY hbX hbY hP hS b1 b2 b3 b4 b5 z1 z2 z3 z4 z5 hW1 hW2 hW3 hW4 hx1 hx2 hx3
 unfold ptr at *
 go_enter Tryz.func40, Tryz.ntmps40
 go_wp2_with fail
 go_ret
 refine ⟨s, by rw [HSS.out]; exact Nat.le_refl _, ?_, HS.out, HP.out, HB.out⟩
 rw [HSS.out]; rfl
end
section
open Go.RowKit
theorem ps2_c {M : World → Int → Tv → Prop} (pf : PfV M) (s b : Nat) (n : Int) (m : Nat) (R : Option Addr) (rl cr : Nat) (form : Int) (p : Pf) (D : Option Addr) (cd : Nat) (c : Cl) (A B : Option Addr) (ca cb : Nat) (w : World) (hP : PB w s b R rl cr c A B ca cb p D cd form) (hh : Hs w b n m) (hm : m ≤ 500000) (hv : Vars w) (hp : p.Ok) (hc : ClOk w c A ca B cb) (hk : c.k.length = 32) (hl : c.pr = true → c.v.length ≤ 65535) :
  Calls Tryz.prog 69 #[.pointer (some ⟨s, 0, none⟩), .pointer (some ⟨s + 3, 0, none⟩), .pointer (some ⟨s + 2, 0, none⟩)] w fun e w' => ∃ m', e = .returned (.bool (supP p c.k (valD n c) c.pr)) ∧ m' ≤ m + 1 ∧ Hs w' b n m' ∧ Keep (fun i => i = b) w w' := by
 have HS := Lib.hid (supports18_c pf b n m p D cd c A B ca cb w hh hm hv hp hc hk hl)
 have h0 := hP.h.cell
 have l1 := hP.p.ld hp
 have l2 := hP.c.ld
 obtain ⟨q, hq⟩ : ∃ q, q = supP p c.k (valD n c) c.pr := ⟨_, rfl⟩
 rw [← hq] at HS ⊢
 clear hP hh hm hv hp hc hk hl hq
 unfold ptr at *
 go_enter Tryz.func69, Tryz.ntmps69
 go_wp2_with fail
 refine HS.out.mono ?_
 rintro _ w1 ⟨m', rfl, hm', hH, hK⟩
 have HH := Lib.hid hH
 have HK := Lib.hid hK
 have HM := Lib.hid hm'
 clear hH hK hm' HS h0 l1 l2
 go_wp2_with fail
 go_ret
 exact ⟨m', rfl, HM.out, HH.out, HK.out⟩
theorem ps3_c (fo : FoV) (s b : Nat) (n : Int) (m : Nat) (root : List UInt8) (R : Option Addr) (cr : Nat) (form : Int) (p : Pf) (D : Option Addr) (cd : Nat) (c : Cl) (A B : Option Addr) (ca cb : Nat) (w : World) (hP : PB w s b R root.length cr c A B ca cb p D cd form) (hh : Hs w b n m) (hm : m ≤ 500000) (hv : Vars w) (hp : p.Ok) (hD : DS w D p.sib) (hd : p.sib.length ≤ cd) (hd2 : p.sib.length ≤ 1000000) (h0 : chkP p = 0) (hc : ClOk w c A ca B cb) (hk : c.k.length = 32) (hR : BA w R root) :
  Calls Tryz.prog 71 #[.pointer (some ⟨s, 0, none⟩), .pointer (some ⟨s + 3, 0, none⟩), .pointer (some ⟨s + 2, 0, none⟩), .pointer (some ⟨s + 1, 0, none⟩)] w fun e w' => ∃ m', e = .returned (.bool (decide (rootP n p c.k = root))) ∧ m' ≤ m + (p.dep.toNat + 2) ∧ Hs w' b n m' ∧ Keep (fun i => i = b) w w' := by
 have HS := Lib.hid (leads18_c fo b n m p D cd c A B ca cb root R cr w hh hm hv hp hD hd hd2 h0 hc hk hR)
 have h1 := hP.h.cell
 have l1 := hP.p.ld hp
 have l2 := hP.c.ld
 have l3 := hP.r.cell
 obtain ⟨q, hq⟩ : ∃ q, q = decide (rootP n p c.k = root) := ⟨_, rfl⟩
 rw [← hq] at HS ⊢
 clear hP hh hm hv hp hc hk hq hD hd hd2 h0 hR
 unfold ptr at *
 go_enter Tryz.func71, Tryz.ntmps71
 go_wp2_with fail
 refine HS.out.mono ?_
 rintro _ w1 ⟨m', rfl, hm', hH, hK⟩
 have HH := Lib.hid hH
 have HK := Lib.hid hK
 have HM := Lib.hid hm'
 clear hH hK hm' HS h1 l1 l2 l3
 go_wp2_with fail
 go_ret
 exact ⟨m', rfl, HM.out, HH.out, HK.out⟩
theorem run18 (Y : World) (b : Nat) (n : Int) (m : Nat) (xs : List Sp) (A : Option Addr) (c : Nat) (q : Nat → Bool) (cost : Nat → Nat) (hH : Hs Y b n m) (hrow : SpA Y A xs) (hA : ∀ g o, A = some ⟨g, o, none⟩ → ¬ g = b) (hlen : xs.length ≤ 1000)
  (hc0 : cost 0 = 0) (hmono : ∀ k, k ≤ xs.length → cost k ≤ cost xs.length)
  (hen : ∀ (k : Nat) (x : Sp), xs[k]? = some x → ∀ (args : Array Value) (w : World), (callFunc x.g args).run Tryz.prog w = .ok (.enter x.g args) w)
  (hstep : ∀ (k : Nat) (x : Sp) (w1 : World) (m1 : Nat), xs[k]? = some x → (∀ j, j < k → q j = true) → Hs w1 b n m1 → m1 ≤ m + cost k → Keep (fun i => i = b) Y w1 → Calls Tryz.prog x.g x.cs w1 fun e w2 => e = .returned (.bool (q k)) ∧ ∃ m2, m2 ≤ m + cost (k + 1) ∧ Hs w2 b n m2 ∧ Keep (fun i => i = b) w1 w2) :
  Calls Tryz.prog 37 #[.slice A xs.length c] Y fun e w' => ∃ v m', e = .returned v ∧ ((v = .nilIface ∧ (∀ k, k < xs.length → q k = true)) ∨ ∃ k x, xs[k]? = some x ∧ (∀ j, j < k → q j = true) ∧ q k = false ∧ Wr18 w' k x.n v) ∧ m' ≤ m + cost xs.length ∧ Hs w' b n m' ∧ Keep (fun i => i = b) Y w' := by
 refine (try_c xs A c q (fun i => i = b) (fun k w' => (∃ m', m' ≤ m + cost k ∧ Hs w' b n m') ∧ Keep (fun i => i = b) Y w') Y ?_ ?_ ?_ ?_ hen hlen ⟨⟨m, by omega, hH⟩, Keep.refl _ _⟩).mono ?_
 ·rintro k w' ⟨_, hk⟩
  exact hrow.keep hk hA
 ·rintro k w1 w2 ⟨⟨m', h1, h2⟩, hk⟩ hb
  exact ⟨⟨m', h1, h2.keep (Keep.of_below (L := fun _ => False) hb) id⟩, hk.trans (Keep.of_below hb)⟩
 ·rintro k w' ⟨⟨m', _, h2⟩, _⟩ i rfl
  exact lt_of_heap h2
 ·rintro k x w1 hx hq ⟨⟨m1, h1, h2⟩, hk⟩
  refine (hstep k x w1 m1 hx hq h2 h1 hk).mono ?_
  rintro e w2 ⟨rfl, m2, h3, h4, h5⟩
  exact ⟨rfl, ⟨⟨m2, h3, h4⟩, hk.trans h5⟩, h5⟩
 ·rintro e w' ⟨v, rfl, ⟨h1, h2, ⟨m', h3, h4⟩, h5⟩ | ⟨k, x, h1, h2, h3, h4, ⟨m', h5, h6⟩, h7⟩⟩
  ·exact ⟨v, m', rfl, .inl ⟨h1, h2⟩, h3, h4, h5⟩
  ·exact ⟨v, m', rfl, .inr ⟨k, x, h1, h2, h3, h4⟩, Nat.le_trans h5 (Nat.add_le_add_left (hmono _ (List.getElem?_eq_some_iff.1 h1).1) _), h6, h7⟩
end
section
open Go.RowKit
noncomputable def q5 (n : Int) (root : List UInt8) (c : Cl) (p : Pf) (form : Int) : Nat → Bool
 | 0 => decide (c.k.length = 32)
 | 1 => !c.pr || decide (c.v.length ≤ 65535)
 | 2 => decide (form = 0)
 | 3 => supP p c.k (valD n c) c.pr
 | 4 => decide (rootP n p c.k = root)
 | _ => true
theorem q5_len {n : Int} {root : List UInt8} {c : Cl} {p : Pf} {form : Int} (h : q5 n root c p form 0 = true) : c.k.length = 32 := of_decide_eq_true h
theorem q5_val {n : Int} {root : List UInt8} {c : Cl} {p : Pf} {form : Int} (h : q5 n root c p form 1 = true) : c.pr = true → c.v.length ≤ 65535 := fun hp => by
 have h : (!c.pr || decide (c.v.length ≤ 65535)) = true := h
 rw [hp] at h
 simpa using h
theorem stC_0 {c : Cl} (h : ¬ c.k.length = 32) : stC c = (1, 2) := by unfold stC; rw [if_pos h]
theorem stC_1 {c : Cl} (h : c.k.length = 32) (h1 : (!c.pr || decide (c.v.length ≤ 65535)) = false) : stC c = (2, 3) := by
 rw [Bool.or_eq_false_iff] at h1
 have h2 : c.pr = true := by simpa using h1.1
 have h3 : ¬ c.v.length ≤ 65535 := by simpa using h1.2
 unfold stC
 rw [if_neg (by omega), if_pos ⟨h2, by omega⟩]
theorem stC_2 {c : Cl} (h : c.k.length = 32) (h1 : (!c.pr || decide (c.v.length ≤ 65535)) = true) : stC c = (0, 0) := by
 unfold stC
 rw [if_neg (by omega), if_neg]
 rintro ⟨h2, h3⟩
 rw [h2] at h1
 have : c.v.length ≤ 65535 := by simpa using h1
 omega
theorem claimRun18 (Y : World) (g : Nat) (A : Option Addr) (cp : Nat) (c : Cl) (A1 B1 : Option Addr) (ca cb : Nat) (hrow : SpA Y A (csS g)) (hC : ClAt Y g c A1 ca B1 cb) :
  Calls Tryz.prog 37 #[.slice A 2 cp] Y fun e w' => ∃ v, e = .returned v ∧ ((v = .nilIface ∧ (stC c).2 = 0) ∨ ∃ i, Wr18 w' i (stC c).2 v) ∧ Below Y.heap.size Y w' := by
 refine (try_c (csS g) A cp (fun k => match k with | 0 => decide (c.k.length = 32) | 1 => !c.pr || decide (c.v.length ≤ 65535) | _ => true) (fun _ => False) (fun _ w' => Below Y.heap.size Y w') Y ?_ ?_ ?_ ?_ ?_ (show 2 ≤ 1000 by decide) (Below.refl _ _)).mono ?_
 ·exact fun k w' hb => hrow.below hb
 ·exact fun k w1 w2 h hb => h.trans (hb.mono h.size)
 ·exact fun _ _ _ _ h => h.elim
 ·intro k x w1 hx hq hb
  have hC1 := hC.below hb (lt_of_heap hC)
  match k, hx with
  | 0, hx =>
   obtain rfl := Option.some.inj hx
   exact (cs1_c g c A1 B1 ca cb w1 hC1).mono (by rintro e w2 ⟨rfl, rfl⟩; exact ⟨rfl, hb, Keep.refl _ _⟩)
  | 1, hx =>
   obtain rfl := Option.some.inj hx
   exact (cs2_c g c A1 B1 ca cb w1 hC1).mono (by rintro e w2 ⟨rfl, rfl⟩; exact ⟨rfl, hb, Keep.refl _ _⟩)
  | k + 2, hx => exact absurd hx (by simp [csS])
 ·intro k x hx
  match k, hx with
  | 0, hx => obtain rfl := Option.some.inj hx; exact fun args w => by kernel_rfl
  | 1, hx => obtain rfl := Option.some.inj hx; exact fun args w => by kernel_rfl
  | k + 2, hx => exact absurd hx (by simp [csS])
 ·rintro e w' ⟨v, rfl, ⟨rfl, h2, h3⟩ | ⟨k, x, h1, h2, h3, h4, h5⟩⟩
  ·exact ⟨_, rfl, .inl ⟨rfl, by rw [stC_2 (of_decide_eq_true (h2 0 (show 0 < 2 by decide))) (h2 1 (show 1 < 2 by decide))]⟩, h3⟩
  ·refine ⟨v, rfl, .inr ?_, h5⟩
   match k, h1, h2, h3, h4 with
   | 0, h1, _, h3, h4 =>
    obtain rfl := Option.some.inj h1
    rw [stC_0 (of_decide_eq_false h3)]
    exact ⟨_, h4⟩
   | 1, h1, h2, h3, h4 =>
    obtain rfl := Option.some.inj h1
    rw [stC_1 (of_decide_eq_true (h2 0 (by decide))) h3]
    exact ⟨_, h4⟩
   | k + 2, h1, _, _, _ => exact absurd h1 (by simp [csS])
theorem claim18_c (c : Cl) (A B : Option Addr) (ca cb : Nat) (w : World) (hE : Ft.ErrVar w) :
  Calls Tryz.prog 20 #[.agg (clC c A ca B cb)] w fun e w' => e = .returned (.int .i64 (stC c).2) ∧ Below w.heap.size w w' := by
 obtain ⟨X, hX⟩ : ∃ X, X = w.alloc (.cells (clC c A ca B cb) 24) := ⟨_, rfl⟩
 have hbX : Below w.heap.size w X := by rw [hX]; exact Bt.one_below _ _
 have hC : ClAt X w.heap.size c A ca B cb := by rw [hX]; exact ClAt.one _ _ _ _ _ _
 have lc := hC.ld
 rw [hX] at lc
 have HS := Lib.hid (claimSteps_c c A B ca cb X)
 have HX := Lib.hid hX
 have HBX := Lib.hid hbX
 have HE := Lib.hid (hE.below hbX)
 clear hX hbX hC hE
 go_enter Tryz.func20, Tryz.ntmps20
 go_wp2_with fail
 rw [← HX.out]
 refine HS.out.mono ?_
 rintro _ w1 ⟨g, hg, rfl, hS1, hC1, hb1⟩
 have HR := Lib.hid (claimRun18 w1 g _ 2 c A B ca cb hS1 hC1)
 have HB1 := Lib.hid hb1
 clear hg hS1 hC1 hb1 HS lc
 go_wp2_with fail
 refine HR.out.mono ?_
 rintro _ w2 ⟨v, rfl, hv, hb2⟩
 have HB2 := Lib.hid (keeps HB1.out hb2)
 have HE2 := Lib.hid (HE.out.below HB2.out)
 have HO : Hid (Calls Tryz.prog 34 #[v] w2 fun e w' => e = .returned (.int .i64 (stC c).2) ∧ Below w2.heap.size w2 w') := by
  rcases hv with ⟨rfl, h⟩ | ⟨i, h⟩
  ·rw [h]; exact errorOf_nil w2
  ·exact errorOf_some i _ v w2 h HE2.out
 clear hv hb2 HR
 go_wp2_with fail
 refine HO.out.mono ?_
 rintro _ w3 ⟨rfl, hb3⟩
 have HB3 := Lib.hid (HBX.out.trans ((keeps HB2.out hb3).mono HBX.out.size))
 clear hb3 HO
 go_wp2_with fail
 go_ret
 exact ⟨rfl, HB3.out⟩
def cost5 (k : Nat) : Nat := if k ≤ 3 then 0 else if k = 4 then 1 else 259
theorem cost5_le (k : Nat) : cost5 k ≤ 259 := by
 unfold cost5
 split
 ·omega
 ·split <;> omega
structure VS (Y : World) (gc s b : Nat) (n : Int) (m : Nat) (root : List UInt8) (R : Option Addr) (cr : Nat) (c : Cl) (A B : Option Addr) (ca cb : Nat) (p : Pf) (D : Option Addr) (cd : Nat) (form : Int) : Prop where
 cl : ClAt Y gc c A ca B cb
 pb : PB Y s b R root.length cr c A B ca cb p D cd form
 hs : Hs Y b n m
 mm : m ≤ 400000
 vars : Vars Y
 ok : ClOk Y c A ca B cb
 root : BA Y R root
 ds : DS Y D p.sib
 pok : p.Ok
 cap : p.sib.length ≤ cd
 nc : b < gc
 ns : b < s
 form : form = 0 → chkP p = 0
theorem ClOk.hs18 {w w' : World} {b : Nat} {n : Int} {m : Nat} {c : Cl} {A B : Option Addr} {ca cb : Nat} (h : ClOk w c A ca B cb) (hh : Hs w b n m) (k : Keep (fun i => i = b) w w') : ClOk w' c A ca B cb := ⟨h.key.hs16 hh k, h.kc, h.val.hs16 hh k, h.vc⟩
theorem five18 {M : World → Int → Tv → Prop} (pf : PfV M) (fo : FoV) {Y : World} {gc s b : Nat} {n : Int} {m : Nat} {root : List UInt8} {R : Option Addr} {cr : Nat} {c : Cl} {A B : Option Addr} {ca cb : Nat} {p : Pf} {D : Option Addr} {cd : Nat} {form : Int} (h : VS Y gc s b n m root R cr c A B ca cb p D cd form)
  (k : Nat) (x : Sp) (w1 : World) (m1 : Nat) (hx : (csS gc ++ psS s form)[k]? = some x) (hq : ∀ j, j < k → q5 n root c p form j = true) (hH : Hs w1 b n m1) (hm : m1 ≤ m + cost5 k) (hk : Keep (fun i => i = b) Y w1) :
  Calls Tryz.prog x.g x.cs w1 fun e w2 => e = .returned (.bool (q5 n root c p form k)) ∧ ∃ m2, m2 ≤ m + cost5 (k + 1) ∧ Hs w2 b n m2 ∧ Keep (fun i => i = b) w1 w2 := by
 have hC1 : ClAt w1 gc c A ca B cb := hk.heap h.cl (by have := h.nc; omega)
 have hP1 := h.pb.keep hk fun i hi e => by have e : i = b := e; have := h.ns; omega
 have hm4 := h.mm
 match k, hx, hq, hm with
 | 0, hx, _, hm =>
  obtain rfl := Option.some.inj hx
  exact (cs1_c gc c A B ca cb w1 hC1).mono (by rintro e w2 ⟨rfl, rfl⟩; exact ⟨rfl, m1, hm, hH, Keep.refl _ _⟩)
 | 1, hx, _, hm =>
  obtain rfl := Option.some.inj hx
  exact (cs2_c gc c A B ca cb w1 hC1).mono (by rintro e w2 ⟨rfl, rfl⟩; exact ⟨rfl, m1, hm, hH, Keep.refl _ _⟩)
 | 2, hx, _, hm =>
  obtain rfl := Option.some.inj hx
  exact (ps1_c (s + 4) form w1 hP1.f).mono (by rintro e w2 ⟨rfl, rfl⟩; exact ⟨rfl, m1, hm, hH, Keep.refl _ _⟩)
 | 3, hx, hq, hm =>
  obtain rfl := Option.some.inj hx
  have hm : m1 ≤ m := hm
  refine (ps2_c pf s b n m1 R root.length cr form p D cd c A B ca cb w1 hP1 hH (by omega) (h.vars.hs h.hs hk) h.pok (h.ok.hs18 h.hs hk) (q5_len (hq 0 (by decide))) (q5_val (hq 1 (by decide)))).mono ?_
  rintro e w2 ⟨m2, rfl, h2, h3, h4⟩
  exact ⟨rfl, m2, show m2 ≤ m + 1 by omega, h3, h4⟩
 | 4, hx, hq, hm =>
  obtain rfl := Option.some.inj hx
  have hm : m1 ≤ m + 1 := hm
  have h0 : chkP p = 0 := h.form (of_decide_eq_true (hq 2 (by decide)))
  have hg : p.dep ≤ 256 ∧ 0 ≤ p.dep ∧ p.sib.length ≤ 256 := by
   rcases chkP_cases p with ⟨h1, _⟩ | ⟨_, ⟨h2, _⟩ | ⟨_, h2⟩⟩
   ·omega
   ·omega
   ·exact ⟨h2.2.1, h2.1, by have := h2.2.2.2.1; have := setZ_le17 (keyF p.bm) 256; omega⟩
  refine (ps3_c fo s b n m1 root R cr form p D cd c A B ca cb w1 hP1 hH (by omega) (h.vars.hs h.hs hk) h.pok (h.ds.hs h.hs hk) h.cap (by omega) h0 (h.ok.hs18 h.hs hk) (q5_len (hq 0 (by decide))) (h.root.hs16 h.hs hk)).mono ?_
  rintro e w2 ⟨m2, rfl, h2, h3, h4⟩
  exact ⟨rfl, m2, show m2 ≤ m + 259 by omega, h3, h4⟩
 | k + 5, hx, _, _ => exact absurd hx (by simp [csS, psS])
theorem fiveIn18 (gc s : Nat) (form : Int) (k : Nat) (x : Sp) (hx : (csS gc ++ psS s form)[k]? = some x) : ∀ (args : Array Value) (w : World), (callFunc x.g args).run Tryz.prog w = .ok (.enter x.g args) w := by
 match k, hx with
 | 0, hx => obtain rfl := Option.some.inj hx; exact fun args w => by kernel_rfl
 | 1, hx => obtain rfl := Option.some.inj hx; exact fun args w => by kernel_rfl
 | 2, hx => obtain rfl := Option.some.inj hx; exact fun args w => by kernel_rfl
 | 3, hx => obtain rfl := Option.some.inj hx; exact fun args w => by kernel_rfl
 | 4, hx => obtain rfl := Option.some.inj hx; exact fun args w => by kernel_rfl
 | k + 5, hx => exact absurd hx (by simp [csS, psS])
end
end Go.Proofs.YtjgdindjimbfeaaGreatDoor
