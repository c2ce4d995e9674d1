import Derived.Test.YtmfbhohjpkmllaaGreatDoorLM
import Derived.Test.YtmfbhohjpkmllaaGreatDoorME
import Derived.Test.YtmfbhohjpkmllaaGreatDoorM4
import Derived.Test.YtmfbhohjpkmllaaGreatDoorMD
namespace Go.Proofs.YtmfbhohjpkmllaaGreatDoor
set_option linter.unusedSimpArgs false
set_option linter.unusedVariables false
set_option maxHeartbeats 8000000
set_option maxRecDepth 100000
section
open Go.RowKit
theorem rempty_c (n : Int) (w : World) : Calls Tryz.prog 54 #[.int .i64 n] w fun e w' => e = .returned (.agg (bA (digL n emptyL))) ∧ Below w.heap.size w w' := by
 obtain ⟨X, hX⟩ : ∃ X, X = w.alloc (.cells (bA z26) 45) := ⟨_, rfl⟩
 have hb0 : Below w.heap.size w X := by rw [hX]; exact (Below.refl _ _).alloc (Nat.le_refl _) _
 have hrow : RowB X w.heap.size 45 z26 := by rw [hX]; exact RowB.alloc w _ _
 have HSZ : Hid (w.heap.size + 1 = X.heap.size) := by show _ = _; rw [hX]; simp
 have HX := Lib.hid hX
 have HB0 := Lib.hid hb0
 have HRW := Lib.hid hrow
 have hgl : (digL n emptyL).length = 32 := dig_len _ _
 have HS : Hid (∀ Y : World, Calls Tryz.prog 47 #[.int .i64 n, .slice (some ⟨Y.heap.size, 0, none⟩) 1 1] (Y.alloc (.cells #[bv 3] 5)) fun e w' => e = .returned (.agg (bA (digL n emptyL))) ∧ Below (Y.alloc (.cells #[bv 3] 5)).heap.size (Y.alloc (.cells #[bv 3] 5)) w') := fun Y => by
  obtain ⟨A1, c1, he, hc1, hA1⟩ := (own_made Y 3).any
  cases he
  exact rdig_c n _ _ emptyL _ hA1 (by decide)
 obtain ⟨g, hg⟩ : ∃ g, g = digL n emptyL := ⟨_, rfl⟩
 rw [← hg] at HS hgl ⊢
 have HGL := Lib.hid hgl
 clear hX hb0 hrow hg hgl
 go_enter Tryz.func54, Tryz.ntmps54
 go_wp2_with fail
 rw [← HX.out, HSZ.out]
 clear HX
 refine (HS.out X).mono ?_
 rintro _ w2 ⟨rfl, hb⟩
 have hb1 : Below X.heap.size X w2 := ((Below.refl _ _).alloc (Nat.le_refl X.heap.size) _).trans (hb.mono (by simp))
 have HB2 := Lib.hid (HB0.out.trans (hb1.mono HB0.out.size))
 have HR2 := Lib.hid (HRW.out.below hb1)
 have sb := stA_row (t := 45) HR2.out (v := bA g) (by rw [bA_size, HGL.out]; exact info26) (by rw [bA_size, bA_size, HGL.out]; rfl) (bA_one _)
 clear hb hb1
 go_wp2
 refine bodyPost_ret (v := .agg (bA g)) ?_ rfl ⟨rfl, Bt.below_row HB2.out (by omega) _⟩
 exact results_cell_row Tryz.results54 _ _ w.heap.size 45 _ (0, 0) _ rfl (setRow_heap w2 _ _ _ 45 _ HR2.out) Tryz.underlying45 rfl (by rw [bA_size, HGL.out]; exact info26)
def rootK : Nat → Int → List Ent → Int → List UInt8
 | 0, n, l, _ => match l with
  | [] => digL n emptyL
  | e :: _ => digL n (leafL e.k (digL n (valL e.v)))
 | f + 1, n, l, d => match l with
  | [] => digL n emptyL
  | [e] => digL n (leafL e.k (digL n (valL e.v)))
  | _ :: _ :: _ => digL n (nodeL (rootK f n (partK l d 0) (d + 1)) (rootK f n (partK l d 1) (d + 1)))
theorem rootK_len (f : Nat) (n : Int) (l : List Ent) (d : Int) : (rootK f n l d).length = 32 := by
 cases f with
 | zero => unfold rootK; split <;> exact dig_len _ _
 | succ f => unfold rootK; split <;> exact dig_len _ _
theorem rootK_none (f : Nat) (n : Int) (d : Int) : rootK f n [] d = digL n emptyL := by cases f <;> rfl
theorem rootK_one (f : Nat) (n : Int) (e : Ent) (d : Int) : rootK f n [e] d = digL n (leafL e.k (digL n (valL e.v))) := by cases f <;> rfl
theorem rootK_two (f : Nat) (n : Int) (l : List Ent) (d : Int) (h : 2 ≤ l.length) : rootK (f + 1) n l d = digL n (nodeL (rootK f n (partK l d 0) (d + 1)) (rootK f n (partK l d 1) (d + 1))) := by
 match l, h with
 | _ :: _ :: _, _ => rfl
theorem partE_ent (l : List En) (d b : Int) : (partE l d b).map En.ent = partK (l.map En.ent) d b := by
 unfold partE partK
 rw [List.filter_map]
 rfl
theorem partE_len (l : List En) (d b : Int) : (partE l d b).length ≤ l.length := List.length_filter_le _ _
theorem partE_mem {l : List En} {d b : Int} {e : En} (h : e ∈ partE l d b) : e ∈ l := (List.mem_filter.1 h).1
theorem partE_last (l : List En) (d b : Int) (hd : 256 ≤ d) (hb : 0 ≤ b) : partE l d b = [] := by
 unfold partE
 rw [List.filter_eq_nil_iff]
 intro e _
 have : bitK e.k d = -1 := by unfold bitK Bt.bitI; rw [if_neg (by omega)]
 rw [this, decide_eq_false (by omega)]
 simp
def Deep (f : Nat) (d : Int) (l : Nat) : Prop := l ≤ 1 ∨ (0 ≤ d ∧ d ≤ 256 ∧ 256 < d + f)
theorem Deep.part {f : Nat} {d : Int} {l : List En} (h : Deep (f + 1) d l.length) (hl : 2 ≤ l.length) (b : Int) (hb : 0 ≤ b) : Deep f (d + 1) (partE l d b).length := by
 rcases h with h | ⟨h0, h1, h2⟩
 ·omega
 ·by_cases hd : d = 256
  ·rw [partE_last l d b (by omega) hb]; exact .inl (Nat.zero_le _)
  ·exact .inr ⟨by omega, by omega, by omega⟩
end
section
open Go.RowKit
theorem root7_few (n : Int) (f : Nat) (A : Option Addr) (c : Nat) (es : List En) (d : Int) (w : World) (hA : EA w A es) (hv : ∀ e ∈ es, e.v.length ≤ 1000) (hl : es.length ≤ 1) :
  Calls Tryz.prog 29 #[.int .i64 n, .slice A es.length c, .int .i64 d] w fun e w' => e = .returned (.agg (bA (rootK f n (es.map En.ent) d))) ∧ Below w.heap.size w w' := by
 obtain ⟨X, hX⟩ : ∃ X, X = w.alloc (.cells (bA z26) 45) := ⟨_, rfl⟩
 have hb0 : Below w.heap.size w X := by rw [hX]; exact (Below.refl _ _).alloc (Nat.le_refl _) _
 have hrow : RowB X w.heap.size 45 z26 := by rw [hX]; exact RowB.alloc w _ _
 have HX := Lib.hid hX
 have HB0 := Lib.hid hb0
 have HRW := Lib.hid hrow
 have HA := Lib.hid hA
 have HV := Lib.hid hv
 clear hX hb0 hrow hA hv
 obtain ⟨g, hg⟩ : ∃ g, g = rootK f n (es.map En.ent) d := ⟨_, rfl⟩
 have HGL : Hid (g.length = 32) := by show _ = _; rw [hg]; exact rootK_len _ _ _ _
 rw [← hg]
 have HG := Lib.hid hg
 clear hg
 rcases Nat.lt_or_ge es.length 1 with h0 | h0
 ·have HE : Hid (digL n emptyL = g) := by
   show _ = g
   rw [HG.out, List.length_eq_zero_iff.1 (show es.length = 0 by omega)]
   exact (rootK_none _ _ _).symm
  have b1 : ((es.length : Int) == 0) = true := beq_iff_eq.2 (by omega)
  have d1 : decide (es.length = 0) = true := decide_eq_true (by omega)
  have HC := Lib.hid (rempty_c n X)
  rw [HE.out] at HC
  clear HG
  go_enter Tryz.func29, Tryz.ntmps29
  go_wp2_with fail
  rw [← HX.out]
  clear HX
  go_wp2_with fail
  refine HC.out.mono ?_
  rintro _ w8 ⟨rfl, hB8⟩
  have HR9 := Lib.hid (HRW.out.below hB8)
  have HBF := Lib.hid (HB0.out.trans (hB8.mono HB0.out.size))
  have sb := stA_row (t := 45) HR9.out (v := bA g) (by rw [bA_size, HGL.out]; exact info26) (by rw [bA_size, bA_size, HGL.out]; rfl) (bA_one _)
  clear hB8
  go_wp2
  refine bodyPost_ret (v := .agg (bA g)) ?_ rfl ⟨rfl, Bt.below_row HBF.out (by omega) _⟩
  exact results_cell_row Tryz.results29 _ _ w.heap.size 45 _ (0, 0) _ rfl (setRow_heap w8 _ _ _ 45 _ HR9.out) Tryz.underlying45 rfl (by rw [bA_size, HGL.out]; exact info26)
 ·obtain ⟨e, he⟩ : ∃ e, es[0]? = some e := ⟨_, List.getElem?_eq_getElem (by omega)⟩
  have hes : es = [e] := by
   match es, h0, hl, he with
   | [x], _, _, he => simp at he; rw [he]
  have HE : Hid (digL n (leafL e.k (digL n (valL e.v))) = g) := by
   show _ = g
   rw [HG.out, hes]
   exact (rootK_one f n e.ent d).symm
  obtain ⟨hok, b, o, rfl, hr⟩ := HA.out 0 e he
  rw [Nat.zero_mul, Nat.add_zero] at hr
  have HVE := Lib.hid (HV.out e (List.mem_of_getElem? he))
  have HOK := Lib.hid hok
  have HR := Lib.hid hr
  obtain ⟨q, hq⟩ : ∃ q, q = digL n (valL e.v) := ⟨_, rfl⟩
  have HQ : Hid (q.length = 32) := by show _ = _; rw [hq]; exact dig_len _ _
  rw [← hq] at HE
  have HBf : Hid (∀ w', Keep (fun i => i = w.heap.size) X w' → Below w.heap.size w w') := fun w' h => HB0.out.trans (h.below HB0.out.size fun i hi => by omega)
  have LK : Hid (∀ w', Keep (fun i => i = w.heap.size) X w' → ldA 39 w' (.pointer (some ⟨b, o, none⟩)) = .ok (.value (.agg (bA e.k))) w') := fun w' h => range_key (range_below HR.out (HBf.out w' h)) HOK.out.key
  have LV : Hid (∀ w', Keep (fun i => i = w.heap.size) X w' → w'.cell? ⟨b, o + 32, none⟩ = some (.slice e.A e.v.length e.c)) := fun w' h => range_val (range_below HR.out (HBf.out w' h)) HOK.out.key
  have HC1 : Hid (∀ w', Keep (fun i => i = w.heap.size) X w' → Calls Tryz.prog 42 #[.int .i64 n, .agg (bA e.k), .slice e.A e.v.length e.c] w' fun x w'' => x = .returned (.agg (bA (e.k ++ q))) ∧ Below w'.heap.size w' w'') := fun w' h => by
   rw [hq]
   exact rleafof_c n e.k e.A e.c e.v w' HOK.out.key (HOK.out.val.below (HBf.out w' h)) HVE.out
  have HC2 := Lib.hid (fun w' => rleaf_c e.k q HOK.out.key HQ.out w')
  have HC3 : Hid (∀ w' A c, BA w' A (leafL e.k q) → Calls Tryz.prog 47 #[.int .i64 n, .slice A (leafL e.k q).length c] w' fun x w'' => x = .returned (.agg (bA g)) ∧ Below w'.heap.size w' w'') := fun w' A c h => by
   rw [← HE.out]
   exact rdig_c n A c (leafL e.k q) w' h (by show (0 :: (e.k ++ q)).length ≤ _; rw [List.length_cons, List.length_append, HOK.out.key, HQ.out]; decide)
  clear hq
  have p1 : (0 : Int) < (es.length : Int) := by omega
  have pN : 0 < es.length := by omega
  have b1 : ((es.length : Int) == 0) = false := beq_eq_false_iff_ne.2 (by omega)
  have b2 : ((es.length : Int) == 1) = true := beq_iff_eq.2 (by omega)
  have d1 : decide (es.length = 0) = false := decide_eq_false (by omega)
  have d2 : decide (es.length = 1) = true := decide_eq_true (by omega)
  clear HG hes he hok hr
  go_enter Tryz.func29, Tryz.ntmps29
  go_wp2_with fail
  rw [← HX.out]
  clear HX
  go_wp2_with fail
  have HRW : Hid (RowB X.drew w.heap.size 45 z26) := HRW.out
  refine wp_region_held_drew (S := fun w' => Keep (fun i => i = w.heap.size) X w') (by kernel_rfl) ((Keep.refl _ _).drew) (fun hHeld => ?_)
  have hb0 : Keep (fun i => i = w.heap.size) X X.drew := (Keep.refl _ _).drew
  refine x_t (i := 0) (oi := { dst := some 17, op := .move (.tmp 0), .. }) (v := ?_) rfl (Or.inl ⟨by rfl, ?_⟩) ?_
  rotate_left 1
  ·intro v hSv
   clear hSv
   go_simp
   try with_reducible rfl
  try simp only [Act.put, x_A, x_0, x_1]
  refine x_t (i := 1) (oi := { dst := some 18, op := .move (.tmp 0), .. }) (v := ?_) rfl (Or.inl ⟨by rfl, ?_⟩) ?_
  rotate_left 1
  ·intro v hSv
   clear hSv
   go_simp
   try with_reducible rfl
  try simp only [Act.put, x_A, x_0, x_1]
  refine x_t (i := 2) (oi := { dst := some 19, op := .move (.tmp 1), .. }) (v := ?_) rfl (Or.inl ⟨by rfl, ?_⟩) ?_
  rotate_left 1
  ·intro v hSv
   clear hSv
   go_simp
   try with_reducible rfl
  try simp only [Act.put, x_A, x_0, x_1]
  refine x_t (i := 3) (oi := { dst := some 20, op := .indexAddr _ (.tmp 19) (.const (.int .i64 0)), .. }) (v := ?_) rfl (Or.inl ⟨by rfl, ?_⟩) ?_
  rotate_left 1
  ·intro v hSv
   have hv1 := pN
   clear hSv
   go_simp
   try with_reducible rfl
  try simp only [Act.put, x_A, x_0, x_1]
  refine x_t (i := 4) (oi := { dst := some 21, op := .fieldAddr _ (.tmp 20) 0, .. }) (v := ?_) rfl (Or.inl ⟨by rfl, ?_⟩) ?_
  rotate_left 1
  ·intro v hSv
   clear hSv
   go_simp
   try with_reducible rfl
  try simp only [Act.put, x_A, x_0, x_1]
  refine x_t (i := 5) (oi := { dst := some 22, op := .load _ (.tmp 21), .. }) (v := ?_) rfl (Or.inl ⟨by rfl, ?_⟩) ?_
  rotate_left 1
  ·intro v hSv
   have hv1 := LK.out v hSv
   clear hSv
   go_simp
   try with_reducible rfl
  try simp only [Act.put, x_A, x_0, x_1]
  refine x_t (i := 6) (oi := { dst := some 23, op := .move (.tmp 1), .. }) (v := ?_) rfl (Or.inl ⟨by rfl, ?_⟩) ?_
  rotate_left 1
  ·intro v hSv
   clear hSv
   go_simp
   try with_reducible rfl
  try simp only [Act.put, x_A, x_0, x_1]
  refine x_t (i := 7) (oi := { dst := some 24, op := .indexAddr _ (.tmp 23) (.const (.int .i64 0)), .. }) (v := ?_) rfl (Or.inl ⟨by rfl, ?_⟩) ?_
  rotate_left 1
  ·intro v hSv
   have hv1 := pN
   clear hSv
   go_simp
   try with_reducible rfl
  try simp only [Act.put, x_A, x_0, x_1]
  refine x_t (i := 8) (oi := { dst := some 25, op := .fieldAddr _ (.tmp 24) 1, .. }) (v := ?_) rfl (Or.inl ⟨by rfl, ?_⟩) ?_
  rotate_left 1
  ·intro v hSv
   clear hSv
   go_simp
   try with_reducible rfl
  try simp only [Act.put, x_A, x_0, x_1]
  refine x_t (i := 9) (oi := { dst := some 26, op := .load _ (.tmp 25), .. }) (v := ?_) rfl (Or.inl ⟨by rfl, ?_⟩) ?_
  rotate_left 1
  ·intro v hSv
   have hv1 := LV.out v hSv
   clear hSv
   go_simp
   try with_reducible rfl
  try simp only [Act.put, x_A, x_0, x_1]
  refine wpAnyH_ready (rs := [10]) (by kernel_rfl) (by simp) ?_
  refine AllReadyH.cons (o := { dst := some 27, op := .call _, .. }) rfl (fun K hK => ?_) AllReadyH.nil
  go_simp
  refine (HC1.out _ (hb0)).mono ?_
  rintro e y1 ⟨rfl, hb⟩
  have hb1 : Keep (fun i => i = w.heap.size) X y1 := (hb0).trans (Keep.of_below hb)
  have HRW := Lib.hid (HRW.out.below hb)
  clear hb
  go_wp2_with fail
  refine hK.out _ _ (hb1) (fun hHeld => ?_)
  clear hK K
  try simp only [Act.put, x_A, x_0, x_1]
  refine wpAnyH_ready (rs := [11]) (by kernel_rfl) (by simp) ?_
  refine AllReadyH.cons (o := { dst := some 28, op := .call _, .. }) rfl (fun K hK => ?_) AllReadyH.nil
  go_simp
  refine (HC2.out _).mono ?_
  rintro e y2 ⟨v, rfl, hO, hb⟩
  have hb2 : Keep (fun i => i = w.heap.size) X y2 := (hb1).trans (Keep.of_below hb)
  obtain ⟨A7, c7, rfl, hc7, hA7⟩ := hO.any
  have HRW := Lib.hid (HRW.out.below hb)
  clear hb
  go_wp2_with fail
  refine hK.out _ _ (hb2) (fun hHeld => ?_)
  clear hK K
  try simp only [Act.put, x_A, x_0, x_1]
  refine wpAnyH_ready (rs := [12]) (by kernel_rfl) (by simp) ?_
  refine AllReadyH.cons (o := { dst := some 29, op := .call _, .. }) rfl (fun K hK => ?_) AllReadyH.nil
  go_simp
  refine (HC3.out _ A7 c7 hA7).mono ?_
  rintro e y3 ⟨rfl, hb⟩
  have hb3 : Keep (fun i => i = w.heap.size) X y3 := (hb2).trans (Keep.of_below hb)
  have HRW := Lib.hid (HRW.out.below hb)
  clear hb
  go_wp2_with fail
  refine hK.out _ _ (hb3) (fun hHeld => ?_)
  clear hK K
  try simp only [Act.put, x_A, x_0, x_1]
  refine wpAnyH_ready (rs := [13]) (by kernel_rfl) (by simp) ?_
  refine AllReadyH.cons (o := { dst := none, op := .store _ (.tmp 6) (.tmp 29), .. }) rfl (fun K hK => ?_) AllReadyH.nil
  have HRr := HRW
  have sb : stA 45 y3 (.pointer (some ⟨w.heap.size, 0, none⟩)) (.agg (bA g)) = .ok .skip (y3.setRow (w.heap.size) (bA g)) := stA_row HRr.out (by rw [bA_size, HGL.out]; exact info26) (by rw [bA_size, bA_size, HGL.out]; rfl) (bA_one _)
  have HM := Lib.hid (setRow_heap y3 (w.heap.size) _ (bA g) _ _ HRr.out)
  go_simp
  refine hK.out _ _ ((hb3).trans (Keep.row y3 (w.heap.size) _)) (fun hHeld => ?_)
  clear hK K
  try simp only [Act.put, x_A, x_0, x_1]
  refine wpAnyH_done (by kernel_rfl) ?_ _
  go_wp2_with fail
  refine bodyPost_ret (v := .agg (bA g)) ?_ rfl ⟨rfl, HBf.out _ ((hb3).trans (Keep.row y3 (w.heap.size) _))⟩
  exact results_cell_row Tryz.results29 _ _ (w.heap.size) 45 _ (0, 0) _ rfl HM.out Tryz.underlying45 rfl (by rw [bA_size, HGL.out]; exact info26)
theorem root7_c (n : Int) : ∀ (f : Nat) (A : Option Addr) (c : Nat) (es : List En) (d : Int) (w : World), EA w A es → es.length ≤ 100000 → (∀ e ∈ es, e.v.length ≤ 1000) → Deep f d es.length →
  Calls Tryz.prog 29 #[.int .i64 n, .slice A es.length c, .int .i64 d] w fun e w' => e = .returned (.agg (bA (rootK f n (es.map En.ent) d))) ∧ Below w.heap.size w w' := by
 intro f
 induction f with
 | zero =>
  intro A c es d w hA hn hv hd
  exact root7_few n 0 A c es d w hA hv (by rcases hd with h | ⟨h0, h1, h2⟩ <;> omega)
 | succ f ih =>
  intro A c es d w hA hn hv hd
  rcases Nat.lt_or_ge es.length 2 with hl | hl
  ·exact root7_few n (f + 1) A c es d w hA hv (by omega)
  obtain ⟨X, hX⟩ : ∃ X, X = w.alloc (.cells (bA z26) 45) := ⟨_, rfl⟩
  have hb0 : Below w.heap.size w X := by rw [hX]; exact (Below.refl _ _).alloc (Nat.le_refl _) _
  have hrow : RowB X w.heap.size 45 z26 := by rw [hX]; exact RowB.alloc w _ _
  have HSZ : Hid (w.heap.size + 1 = X.heap.size) := by show _ = _; rw [hX]; simp
  have HX := Lib.hid hX
  have HB0 := Lib.hid hb0
  have HRW := Lib.hid hrow
  have HA := Lib.hid (hA.below hb0)
  have HV := Lib.hid hv
  clear hX hb0 hrow hA hv
  have HD0 := Lib.hid (hd.part hl 0 (by omega))
  have HD1 := Lib.hid (hd.part hl 1 (by omega))
  have hd2 : 0 ≤ d ∧ d ≤ 256 := by
   rcases hd with h | ⟨h0, h1, h2⟩
   ·omega
   ·exact ⟨h0, h1⟩
  obtain ⟨q0, q1⟩ := hd2
  clear hd
  have HRT := Lib.hid (rootK_two f n (es.map En.ent) d (by rw [List.length_map]; exact hl))
  have HL0 := Lib.hid (Nat.le_trans (partE_len es d 0) hn)
  have HL1 := Lib.hid (Nat.le_trans (partE_len es d 1) hn)
  have d1 : decide (es.length = 0) = false := decide_eq_false (by omega)
  have d2 : decide (es.length = 1) = false := decide_eq_false (by omega)
  have b1 : ((es.length : Int) == 0) = false := beq_eq_false_iff_ne.2 (by omega)
  have b2 : ((es.length : Int) == 1) = false := beq_eq_false_iff_ne.2 (by omega)
  have HIH := Lib.hid ih
  clear ih
  go_enter Tryz.func29, Tryz.ntmps29
  go_wp2_with fail
  rw [← HX.out]
  clear HX
  go_wp2_with fail
  refine (part7_c A c es d 0 X HA.out hn).mono ?_
  rintro _ w1 ⟨v1, rfl, hO1, hB1⟩
  obtain ⟨A1, c1, rfl, hc1, hE1⟩ := hO1.ea (fun e he => (HA.out.mem e (partE_mem he)).below hB1)
  have HE1 := Lib.hid hE1
  have HB1 := Lib.hid hB1
  clear hO1 hc1 hE1 hB1
  go_wp2_with fail
  refine (HIH.out A1 c1 (partE es d 0) (d + 1) w1 HE1.out HL0.out (fun e he => HV.out e (partE_mem he)) HD0.out).mono ?_
  rintro _ w2 ⟨rfl, hB2⟩
  have HB2 : Hid (Below X.heap.size X w2) := HB1.out.trans (hB2.mono HB1.out.size)
  rw [partE_ent]
  obtain ⟨g0, hg0⟩ : ∃ g, g = rootK f n (partK (es.map En.ent) d 0) (d + 1) := ⟨_, rfl⟩
  have HG0 : Hid (g0.length = 32) := by show _ = _; rw [hg0]; exact rootK_len _ _ _ _
  rw [← hg0] at HRT ⊢
  have st0 := fun w => stA_new (t := 45) w (bA z26) (bA g0) (by rw [bA_size, HG0.out]; exact info26) (by rw [bA_size, bA_size, HG0.out]; rfl) (bA_one _)
  clear hg0 hB2 HB1 HE1
  go_wp2_with fail
  obtain ⟨w3, hw3⟩ : ∃ x, x = w2.alloc (.cells (bA g0) 45) := ⟨_, rfl⟩
  have hr3 : RowB w3 w2.heap.size 45 g0 := by rw [hw3]; exact RowB.alloc w2 _ _
  have HB3 : Hid (Below X.heap.size X w3) := by show Below _ _ _; rw [hw3]; exact HB2.out.alloc HB2.out.size _
  have HR3 := Lib.hid hr3
  rw [← hw3]
  clear hr3 hw3 st0
  refine (part7_c A c es d 1 w3 (HA.out.below HB3.out) hn).mono ?_
  rintro _ w4 ⟨v4, rfl, hO4, hB4⟩
  obtain ⟨A4, c4, rfl, hc4, hE4⟩ := hO4.ea (fun e he => (HA.out.mem e (partE_mem he)).below (keeps HB3.out hB4))
  have HE4 := Lib.hid hE4
  have HB4 := Lib.hid hB4
  clear hO4 hc4 hE4 hB4
  go_wp2_with fail
  refine (HIH.out A4 c4 (partE es d 1) (d + 1) w4 HE4.out HL1.out (fun e he => HV.out e (partE_mem he)) HD1.out).mono ?_
  rintro _ w5 ⟨rfl, hB5⟩
  have HB5 : Hid (Below w3.heap.size w3 w5) := keeps HB4.out hB5
  rw [partE_ent]
  obtain ⟨g1, hg1⟩ : ∃ g, g = rootK f n (partK (es.map En.ent) d 1) (d + 1) := ⟨_, rfl⟩
  have HG1 : Hid (g1.length = 32) := by show _ = _; rw [hg1]; exact rootK_len _ _ _ _
  rw [← hg1] at HRT ⊢
  have st1 := fun w => stA_new (t := 45) w (bA z26) (bA g1) (by rw [bA_size, HG1.out]; exact info26) (by rw [bA_size, bA_size, HG1.out]; rfl) (bA_one _)
  obtain ⟨w6, hw6⟩ : ∃ x, x = w5.alloc (.cells (bA g1) 45) := ⟨_, rfl⟩
  have hr6 : RowB w6 w5.heap.size 45 g1 := by rw [hw6]; exact RowB.alloc w5 _ _
  have HB6 : Hid (Below w3.heap.size w3 w6) := by show Below _ _ _; rw [hw6]; exact HB5.out.alloc HB5.out.size _
  have l1 := hr6.ldDig HG1.out
  have l0 := (HR3.out.below HB6.out).ldDig HG0.out
  rw [hw6] at l1 l0
  clear hg1 hB5 HB4 HE4
  go_wp2_with fail
  rw [← hw6]
  clear hr6 hw6 st1 l1 l0
  have HB7 : Hid (Below X.heap.size X w6) := keeps HB3.out HB6.out
  refine (rnode_c g0 g1 HG0.out HG1.out w6).mono ?_
  rintro _ w7 ⟨v7, rfl, hO7, hB7⟩
  obtain ⟨A7, c7, rfl, hc7, hA7⟩ := hO7.any
  have HA7 := Lib.hid hA7
  have HB8 : Hid (Below X.heap.size X w7) := keeps HB7.out hB7
  clear hO7 hc7 hA7 hB7
  go_wp2_with fail
  refine (rdig_c n A7 c7 (nodeL g0 g1) w7 HA7.out (by show (1 :: (g0 ++ g1)).length ≤ _; rw [List.length_cons, List.length_append, HG0.out, HG1.out]; decide)).mono ?_
  rintro _ w8 ⟨rfl, hB8⟩
  have HB9 : Hid (Below X.heap.size X w8) := keeps HB8.out hB8
  obtain ⟨g, hg⟩ : ∃ g, g = digL n (nodeL g0 g1) := ⟨_, rfl⟩
  have HGE : Hid (rootK (f + 1) n (es.map En.ent) d = g) := HRT.out.trans hg.symm
  have HGL : Hid (g.length = 32) := by show _ = _; rw [hg]; exact dig_len _ _
  rw [← hg]
  have HR9 := Lib.hid (HRW.out.below HB9.out)
  have HBF := Lib.hid (HB0.out.trans (HB9.out.mono HB0.out.size))
  have sb := stA_row (t := 45) HR9.out (v := bA g) (by rw [bA_size, HGL.out]; exact info26) (by rw [bA_size, bA_size, HGL.out]; rfl) (bA_one _)
  clear hg hB8
  go_wp2
  refine bodyPost_ret (v := .agg (bA g)) ?_ rfl ⟨by rw [HGE.out], Bt.below_row HBF.out (by omega) _⟩
  exact results_cell_row Tryz.results29 _ _ w.heap.size 45 _ (0, 0) _ rfl (setRow_heap w8 _ _ _ 45 _ HR9.out) Tryz.underlying45 rfl (by rw [bA_size, HGL.out]; exact info26)
end
section
open Go.RowKit
inductive Tr where
 | nil
 | leaf (e : Ent)
 | inner (a b : Tr)
def joinT : Tr → Tr → Tr
 | .nil, .nil => .nil
 | .nil, .leaf e => .leaf e
 | .leaf e, .nil => .leaf e
 | a, b => .inner a b
def growT : Nat → List Ent → Int → Tr
 | 0, l, _ => match l with
  | [] => .nil
  | e :: _ => .leaf e
 | f + 1, l, d => match l with
  | [] => .nil
  | [e] => .leaf e
  | _ :: _ :: _ => joinT (growT f (partK l d 0) (d + 1)) (growT f (partK l d 1) (d + 1))
def lenT : Tr → Nat
 | .nil => 0
 | .leaf _ => 1
 | .inner a b => lenT a + lenT b
theorem lenT_join : ∀ (s t : Tr), lenT (joinT s t) = lenT s + lenT t
 | .nil, .nil => rfl
 | .nil, .leaf _ => by simp [joinT, lenT]
 | .leaf _, .nil => by simp [joinT, lenT]
 | .nil, .inner _ _ => rfl
 | .leaf _, .leaf _ => rfl
 | .leaf _, .inner _ _ => rfl
 | .inner _ _, .nil => rfl
 | .inner _ _, .leaf _ => rfl
 | .inner _ _, .inner _ _ => rfl
theorem growT_none (f : Nat) (d : Int) : growT f [] d = .nil := by cases f <;> rfl
theorem growT_one (f : Nat) (e : Ent) (d : Int) : growT f [e] d = .leaf e := by cases f <;> rfl
theorem growT_two (f : Nat) (l : List Ent) (d : Int) (h : 2 ≤ l.length) : growT (f + 1) l d = joinT (growT f (partK l d 0) (d + 1)) (growT f (partK l d 1) (d + 1)) := by
 match l, h with
 | _ :: _ :: _, _ => rfl
theorem parts_len (l : List En) (d : Int) : (partE l d 0).length + (partE l d 1).length ≤ l.length := by
 induction l with
 | nil => exact Nat.le_refl _
 | cons x r ih =>
  unfold partE at *
  rw [List.filter_cons, List.filter_cons]
  by_cases h0 : bitK x.k d = 0
  ·rw [if_pos (decide_eq_true h0), if_neg (by rw [decide_eq_false (by omega)]; simp)]
   rw [List.length_cons, List.length_cons]
   omega
  ·rw [if_neg (by rw [decide_eq_false h0]; simp)]
   split
   ·rw [List.length_cons, List.length_cons]; omega
   ·rw [List.length_cons]; omega
theorem partK_two (l : List Ent) (d : Int) : (partK l d 0).length + (partK l d 1).length ≤ l.length := by
 induction l with
 | nil => exact Nat.le_refl _
 | cons x r ih =>
  unfold partK at *
  rw [List.filter_cons, List.filter_cons]
  by_cases h0 : bitK x.k d = 0
  ·rw [if_pos (decide_eq_true h0), if_neg (by rw [decide_eq_false (by omega)]; simp)]
   rw [List.length_cons, List.length_cons]
   omega
  ·rw [if_neg (by rw [decide_eq_false h0]; simp)]
   split
   ·rw [List.length_cons, List.length_cons]; omega
   ·rw [List.length_cons]; omega
theorem growT_len : ∀ (f : Nat) (l : List Ent) (d : Int), lenT (growT f l d) ≤ l.length := by
 have few : ∀ (f : Nat) (l : List Ent) (d : Int), l.length ≤ 1 → lenT (growT f l d) ≤ l.length := by
  intro f l d hl
  match l, hl with
  | [], _ => rw [growT_none]; exact Nat.le_refl _
  | [e], _ => rw [growT_one]; exact Nat.le_refl _
 intro f
 induction f with
 | zero =>
  intro l d
  match l with
  | [] => exact Nat.le_refl _
  | e :: r => show 1 ≤ (e :: r).length; rw [List.length_cons]; omega
 | succ f ih =>
  intro l d
  rcases Nat.lt_or_ge l.length 2 with hl | hl
  ·exact few (f + 1) l d (by omega)
  ·rw [growT_two f l d hl, lenT_join]
   have a := ih (partK l d 0) (d + 1)
   have b := ih (partK l d 1) (d + 1)
   have c := partK_two l d
   omega
theorem cost (f a b L : Nat) (h : a + b ≤ L) (hL : 1 ≤ L) : (3 * f + 2) * a + (3 * f + 2) * b + 3 ≤ (3 * (f + 1) + 2) * L := by
 have h1 := Nat.mul_le_mul_left (3 * f + 2) h
 rw [Nat.mul_add] at h1
 have h2 : (3 * (f + 1) + 2) * L = (3 * f + 2) * L + 3 * L := by rw [show 3 * (f + 1) + 2 = (3 * f + 2) + 3 by omega, Nat.add_mul]
 omega
theorem Hs.range {w w' : World} {b : Nat} {n : Int} {c : Nat} {g o : Nat} {e : En} (h : Hs w b n c) (hr : w.rangeAt g o (enC e)) (hk : e.k.length = 32) (k : Keep (fun i => i = b) w w') : w'.rangeAt g o (enC e) := by
 have hg : g ≠ b := by
  rintro rfl
  have h1 := hr 0 (bv (e.k.getD 0 0)) (by
   unfold enC
   rw [List.getElem?_append_left (by rw [List.length_map, hk]; decide), List.getElem?_map, List.getD_eq_getElem?_getD, List.getElem?_eq_getElem (by omega)]
   rfl)
  rw [cell_of_cells h, Nat.add_zero] at h1
  match o, h1 with
  | 0, h1 => cases h1
  | 1, h1 => cases h1
  | q + 2, h1 => simp at h1
 intro j v hv
 exact k.cellAt (hr j v hv) hg
theorem Hs.ok {w w' : World} {b : Nat} {n : Int} {c : Nat} {e : En} (h : Hs w b n c) (he : EnOk w e) (k : Keep (fun i => i = b) w w') : EnOk w' e := ⟨he.key, he.cap, h.ba he.val k⟩
theorem Hs.ea {w w' : World} {b : Nat} {n : Int} {c : Nat} {A : Option Addr} {es : List En} (h : Hs w b n c) (hA : EA w A es) (k : Keep (fun i => i = b) w w') : EA w' A es := fun i e hi => by
 obtain ⟨h1, g, o, rfl, h2⟩ := hA i e hi
 exact ⟨h.ok h1 k, g, o, rfl, h.range h2 h1.key k⟩
theorem Vars.hs {w w' : World} {b : Nat} {n : Int} {c : Nat} (hv : Vars w) (h : Hs w b n c) (k : Keep (fun i => i = b) w w') : Vars w' := hv.keep k (h.vars hv).1.symm (h.vars hv).2.symm
structure NdC (N : World → Int → Value → Tr → Prop) : Prop where
 nil : ∀ w n, N w n (.pointer none) .nil
 keep : ∀ {w w' : World} {n : Int} {v : Value} {t : Tr} {b : Nat} {k : Int} {c : Nat}, N w n v t → Hs w b k c → Keep (fun i => i = b) w w' → N w' n v t
 leaf : ∀ (w : World) (b : Nat) (n : Int) (c : Nat) (e : En), Hs w b n c → c ≤ 1000000 → Vars w → EnOk w e → e.v.length ≤ 1000 →
  Calls Tryz.prog 59 #[ptr b, .agg (enC e).toArray] w fun x w' => ∃ v c', x = .returned v ∧ N w' n v (.leaf e.ent) ∧ c' ≤ c + 2 ∧ Hs w' b n c' ∧ Keep (fun i => i = b) w w'
 join : ∀ (w : World) (b : Nat) (n : Int) (c : Nat) (p q : Value) (s t : Tr), Hs w b n c → c ≤ 1000000 → Vars w → N w n p s → N w n q t → lenT s + lenT t ≤ 1000000000 →
  Calls Tryz.prog 60 #[ptr b, p, q] w fun x w' => ∃ v c', x = .returned v ∧ N w' n v (joinT s t) ∧ c' ≤ c + 3 ∧ Hs w' b n c' ∧ Keep (fun i => i = b) w w'
def Grown (N : World → Int → Value → Tr → Prop) (b : Nat) (n : Int) (m : Nat) (t : Tr) (w : World) (x : Ending) (w' : World) : Prop :=
 ∃ v c', x = .returned v ∧ N w' n v t ∧ c' ≤ m ∧ Hs w' b n c' ∧ Keep (fun i => i = b) w w'
theorem grow_c {N : World → Int → Value → Tr → Prop} (nd : NdC N) (n : Int) (b : Nat) : ∀ (f : Nat) (A : Option Addr) (c : Nat) (es : List En) (d : Int) (m : Nat) (w : World), EA w A es → es.length ≤ 100000 → (∀ e ∈ es, e.v.length ≤ 1000) → Deep f d es.length →
  Hs w b n m → Vars w → m + (3 * f + 2) * es.length ≤ 900000 →
  Calls Tryz.prog 35 #[ptr b, .slice A es.length c, .int .i64 d] w (Grown N b n (m + (3 * f + 2) * es.length) (growT f (es.map En.ent) d) w) := by
 have few : ∀ (f : Nat) (A : Option Addr) (c : Nat) (es : List En) (d : Int) (m : Nat) (w : World), EA w A es → (∀ e ∈ es, e.v.length ≤ 1000) → es.length ≤ 1 → Hs w b n m → Vars w → m ≤ 900000 →
   Calls Tryz.prog 35 #[ptr b, .slice A es.length c, .int .i64 d] w (Grown N b n (m + (3 * f + 2) * es.length) (growT f (es.map En.ent) d) w) := by
  intro f A c es d m w hA hv hl hh hvx hm
  rcases Nat.lt_or_ge es.length 1 with h0 | h0
  ·have hes : es = [] := List.length_eq_zero_iff.1 (by omega)
   have HE : Hid (growT f (es.map En.ent) d = .nil) := by show _ = _; rw [hes]; exact growT_none f d
   have b1 : ((es.length : Int) == 0) = true := beq_iff_eq.2 (by omega)
   have d1 : decide (es.length = 0) = true := decide_eq_true (by omega)
   have HH := Lib.hid hh
   rw [HE.out]
   clear hes hh hA hv hvx
   go_enter Tryz.func35, Tryz.ntmps35
   go_wp2_with fail
   go_ret
   exact ⟨_, m, rfl, nd.nil _ _, by omega, HH.out, Keep.refl _ _⟩
  ·obtain ⟨e, he⟩ : ∃ e, es[0]? = some e := ⟨_, List.getElem?_eq_getElem (by omega)⟩
   have hes : es = [e] := by
    match es, h0, hl, he with
    | [x], _, _, he => simp at he; rw [he]
   have HE : Hid (growT f (es.map En.ent) d = .leaf e.ent) := by show _ = _; rw [hes]; exact growT_one f e.ent d
   obtain ⟨hok, g, o, rfl, hr⟩ := hA 0 e he
   rw [Nat.zero_mul, Nat.add_zero] at hr
   have HC := Lib.hid (nd.leaf w b n m e hh (by omega) hvx hok (hv e (List.mem_of_getElem? he)))
   have le := range_ent hr hok.key
   have pN : 0 < es.length := by omega
   have p1 : (0 : Int) < (es.length : Int) := by omega
   have b1 : ((es.length : Int) == 0) = false := beq_eq_false_iff_ne.2 (by omega)
   have b2 : ((es.length : Int) == 1) = true := beq_iff_eq.2 (by omega)
   have HM : Hid (m + 2 ≤ m + (3 * f + 2) * es.length) := by
    show _ ≤ _
    have : es.length = 1 := by omega
    rw [this]
    omega
   rw [HE.out]
   clear hes hh hA hv hvx hok hr he
   go_enter Tryz.func35, Tryz.ntmps35
   go_wp2_with fail
   refine HC.out.mono ?_
   rintro _ w1 ⟨v, c', rfl, hN, hc', hH, hK⟩
   have HP : Hid (N w1 n v (.leaf e.ent) ∧ c' ≤ m + 2 ∧ Hs w1 b n c' ∧ Keep (fun i => i = b) w w1) := ⟨hN, hc', hH, hK⟩
   clear hN hc' hH hK le
   go_wp2_with fail
   go_ret
   exact ⟨v, c', rfl, HP.out.1, Nat.le_trans HP.out.2.1 HM.out, HP.out.2.2.1, HP.out.2.2.2⟩
 intro f
 induction f with
 | zero =>
  intro A c es d m w hA hn hv hd hh hvx hm
  exact few 0 A c es d m w hA hv (by rcases hd with h | ⟨h0, h1, h2⟩ <;> omega) hh hvx (by omega)
 | succ f ih =>
  intro A c es d m w hA hn hv hd hh hvx hm
  rcases Nat.lt_or_ge es.length 2 with hl | hl
  ·exact few (f + 1) A c es d m w hA hv (by omega) hh hvx (by omega)
  have HD0 := Lib.hid (hd.part hl 0 (by omega))
  have HD1 := Lib.hid (hd.part hl 1 (by omega))
  have hd2 : 0 ≤ d ∧ d ≤ 256 := by
   rcases hd with h | ⟨h0, h1, h2⟩
   ·omega
   ·exact ⟨h0, h1⟩
  obtain ⟨q0, q1⟩ := hd2
  have HT := Lib.hid (growT_two f (es.map En.ent) d (by rw [List.length_map]; exact hl))
  rw [HT.out]
  have HL0 := Lib.hid (Nat.le_trans (partE_len es d 0) hn)
  have HL1 := Lib.hid (Nat.le_trans (partE_len es d 1) hn)
  obtain ⟨P0, hP0⟩ : ∃ x, x = (3 * f + 2) * (partE es d 0).length := ⟨_, rfl⟩
  obtain ⟨P1, hP1⟩ : ∃ x, x = (3 * f + 2) * (partE es d 1).length := ⟨_, rfl⟩
  obtain ⟨M, hM⟩ : ∃ x, x = m + (3 * (f + 1) + 2) * es.length := ⟨_, rfl⟩
  have HCO : Hid (m + P0 + P1 + 3 ≤ M) := by
   show _ ≤ _
   have := cost f _ _ _ (parts_len es d) (by omega)
   rw [hP0, hP1, hM]
   omega
  rw [← hM] at hm ⊢
  have HM9 := Lib.hid hm
  have HP0 := Lib.hid hP0
  have HP1 := Lib.hid hP1
  have d1 : decide (es.length = 0) = false := decide_eq_false (by omega)
  have d2 : decide (es.length = 1) = false := decide_eq_false (by omega)
  have b1 : ((es.length : Int) == 0) = false := beq_eq_false_iff_ne.2 (by omega)
  have b2 : ((es.length : Int) == 1) = false := beq_eq_false_iff_ne.2 (by omega)
  have HIH := Lib.hid ih
  have HA := Lib.hid hA
  have HV := Lib.hid hv
  have HH := Lib.hid hh
  have HVX := Lib.hid hvx
  clear ih hA hv hh hvx hd hP0 hP1 hM hm few HT
  go_enter Tryz.func35, Tryz.ntmps35
  go_wp2_with fail
  refine (part7_c A c es d 0 w HA.out hn).mono ?_
  rintro _ w1 ⟨v1, rfl, hO1, hB1⟩
  obtain ⟨A1, c1, rfl, hc1, hE1⟩ := hO1.ea (fun e he => (HA.out.mem e (partE_mem he)).below hB1)
  have k1 : Keep (fun i => i = b) w w1 := Keep.of_below hB1
  have HH1 := Lib.hid (HH.out.keep (Keep.of_below (L := fun _ => False) hB1) fun h => h)
  have HVX1 := Lib.hid (HVX.out.below hB1)
  have HA1 := Lib.hid (HA.out.below hB1)
  have HE1 := Lib.hid hE1
  have HK1 := Lib.hid k1
  clear hO1 hc1 hE1 hB1 k1
  go_wp2_with fail
  refine (HIH.out A1 c1 (partE es d 0) (d + 1) m w1 HE1.out HL0.out (fun e he => HV.out e (partE_mem he)) HD0.out HH1.out HVX1.out (by rw [← HP0.out]; have := HCO.out; have := HM9.out; omega)).mono ?_
  rintro _ w2 ⟨p, m2, rfl, hN2, hm2, hH2, hK2⟩
  rw [← HP0.out] at hm2
  rw [partE_ent] at hN2
  have HN2 := Lib.hid hN2
  have HM2 := Lib.hid hm2
  have HH2 := Lib.hid hH2
  have HVX2 := Lib.hid (HVX1.out.hs HH1.out hK2)
  have HA2 := Lib.hid (HH1.out.ea HA1.out hK2)
  have HK2 := Lib.hid (HK1.out.trans hK2)
  clear hN2 hm2 hH2 hK2 HE1 HA1 HVX1 HH1 HK1
  go_wp2_with fail
  refine (part7_c A c es d 1 w2 HA2.out hn).mono ?_
  rintro _ w3 ⟨v3, rfl, hO3, hB3⟩
  obtain ⟨A3, c3, rfl, hc3, hE3⟩ := hO3.ea (fun e he => (HA2.out.mem e (partE_mem he)).below hB3)
  have HH3 := Lib.hid (HH2.out.keep (Keep.of_below (L := fun _ => False) hB3) fun h => h)
  have HVX3 := Lib.hid (HVX2.out.below hB3)
  have HE3 := Lib.hid hE3
  have HN3 := Lib.hid (nd.keep HN2.out HH2.out (Keep.of_below hB3))
  have HK3 := Lib.hid (HK2.out.trans (Keep.of_below hB3))
  clear hO3 hc3 hE3 hB3 HH2 HVX2 HA2 HN2 HK2
  go_wp2_with fail
  refine (HIH.out A3 c3 (partE es d 1) (d + 1) m2 w3 HE3.out HL1.out (fun e he => HV.out e (partE_mem he)) HD1.out HH3.out HVX3.out (by rw [← HP1.out]; have := HCO.out; have := HM9.out; have := HM2.out; omega)).mono ?_
  rintro _ w4 ⟨q, m4, rfl, hN4, hm4, hH4, hK4⟩
  rw [← HP1.out] at hm4
  rw [partE_ent] at hN4
  have HM4 : Hid (m4 ≤ m + P0 + P1) := by show _ ≤ _; have := HM2.out; omega
  have HC := Lib.hid (nd.join w4 b n m4 p q _ _ hH4 (by have := HM4.out; have := HCO.out; have := HM9.out; omega) (HVX3.out.hs HH3.out hK4) (nd.keep HN3.out HH3.out hK4) hN4 (by
   have a := growT_len f (partK (es.map En.ent) d 0) (d + 1)
   have b := growT_len f (partK (es.map En.ent) d 1) (d + 1)
   have c := partK_two (es.map En.ent) d
   rw [List.length_map] at c
   omega))
  have HK4 := Lib.hid (HK3.out.trans hK4)
  clear hN4 hm4 hH4 hK4 HN3 HH3 HVX3 HE3 HK3
  go_wp2_with fail
  refine HC.out.mono ?_
  rintro _ w5 ⟨v, m5, rfl, hN5, hm5, hH5, hK5⟩
  have HF : Hid (Grown N b n M (joinT (growT f (partK (es.map En.ent) d 0) (d + 1)) (growT f (partK (es.map En.ent) d 1) (d + 1))) w (.returned v) w5) :=
   ⟨v, m5, rfl, hN5, by have := HM4.out; have := HCO.out; omega, hH5, HK4.out.trans hK5⟩
  clear hN5 hm5 hH5 hK5
  go_wp2_with fail
  go_ret
  exact HF.out
end
section
def digT (n : Int) : Tr → List UInt8
 | .nil => digL n emptyL
 | .leaf e => digL n (leafL e.k (digL n (valL e.v)))
 | .inner a b => digL n (nodeL (digT n a) (digT n b))
theorem digT_len (n : Int) (t : Tr) : (digT n t).length = 32 := by cases t <;> exact dig_len _ _
theorem joinT_inner : ∀ (s t : Tr), 2 ≤ lenT s + lenT t → joinT s t = .inner s t
 | .nil, .nil, h => absurd h (by decide)
 | .nil, .leaf _, h => absurd h (by simp [lenT])
 | .leaf _, .nil, h => absurd h (by simp [lenT])
 | .nil, .inner _ _, _ => rfl
 | .leaf _, .leaf _, _ => rfl
 | .leaf _, .inner _ _, _ => rfl
 | .inner _ _, .nil, _ => rfl
 | .inner _ _, .leaf _, _ => rfl
 | .inner _ _, .inner _ _, _ => rfl
structure Sep (d : Int) (l : List Ent) : Prop where
 len : ∀ a ∈ l, a.k.length = 32
 ne : l.Pairwise (fun a b => a.k ≠ b.k)
 eq : ∀ a ∈ l, ∀ b ∈ l, ∀ i : Nat, (i : Int) < d → i < 256 → Bt.bit (keyF a.k) i = Bt.bit (keyF b.k) i
theorem Sep.two {d : Int} {l : List Ent} (h : Sep d l) (hl : 2 ≤ l.length) : d < 256 := by
 refine Classical.byContradiction fun hd => ?_
 match l, h, hl with
 | a :: b :: r, h, _ =>
  have h1 : a.k ≠ b.k := (List.pairwise_cons.1 h.ne).1 b (by simp)
  exact h1 (keyF_inj (h.len a (by simp)) (h.len b (by simp)) (Bt.key_ext (keyF_byt _) (keyF_byt _) fun i hi => h.eq a (by simp) b (by simp) i (by omega) hi))
theorem bitK_in (k : List UInt8) {d : Int} (h0 : 0 ≤ d) (h1 : d < 256) : bitK k d = (Bt.bit (keyF k) d.toNat : Int) := by unfold bitK Bt.bitI; rw [if_pos ⟨h0, h1⟩]
theorem Sep.part {d : Int} {l : List Ent} (h : Sep d l) (h0 : 0 ≤ d) (h1 : d < 256) (b : Int) : Sep (d + 1) (partK l d b) where
 len := fun a ha => h.len a (List.mem_filter.1 ha).1
 ne := h.ne.filter _
 eq := fun x hx y hy i hi h2 => by
  obtain ⟨hx1, hx2⟩ := List.mem_filter.1 hx
  obtain ⟨hy1, hy2⟩ := List.mem_filter.1 hy
  by_cases hd : (i : Int) < d
  ·exact h.eq x hx1 y hy1 i hd h2
  ·have e1 := of_decide_eq_true hx2
   have e2 := of_decide_eq_true hy2
   rw [bitK_in _ h0 h1, show d.toNat = i by omega] at e1 e2
   omega
theorem parts_sum (l : List Ent) {d : Int} (h0 : 0 ≤ d) (h1 : d < 256) : (partK l d 0).length + (partK l d 1).length = l.length := by
 induction l with
 | nil => rfl
 | cons x r ih =>
  unfold partK at *
  rw [List.filter_cons, List.filter_cons]
  have hb := Bt.bit_lt (keyF x.k) d.toNat
  have hk := bitK_in x.k h0 h1
  by_cases hz : bitK x.k d = 0
  ·rw [if_pos (decide_eq_true hz), if_neg (by rw [decide_eq_false (by omega)]; simp)]
   rw [List.length_cons, List.length_cons]
   omega
  ·rw [if_neg (by rw [decide_eq_false hz]; simp), if_pos (decide_eq_true (by omega))]
   rw [List.length_cons, List.length_cons]
   omega
theorem grow_both (n : Int) : ∀ (f : Nat) (l : List Ent) (d : Int), Sep d l → Deep f d l.length → lenT (growT f l d) = l.length ∧ digT n (growT f l d) = rootK f n l d := by
 have few : ∀ (f : Nat) (l : List Ent) (d : Int), l.length ≤ 1 → lenT (growT f l d) = l.length ∧ digT n (growT f l d) = rootK f n l d := by
  intro f l d hl
  match l, hl with
  | [], _ => rw [growT_none, rootK_none]; exact ⟨rfl, rfl⟩
  | [e], _ => rw [growT_one, rootK_one]; exact ⟨rfl, rfl⟩
 intro f
 induction f with
 | zero =>
  intro l d _ hd
  exact few 0 l d (by rcases hd with h | ⟨h0, h1, h2⟩ <;> omega)
 | succ f ih =>
  intro l d hs hd
  rcases Nat.lt_or_ge l.length 2 with hl | hl
  ·exact few (f + 1) l d (by omega)
  have h256 := hs.two hl
  have hd2 : 0 ≤ d ∧ 256 < d + (f + 1 : Nat) := by
   rcases hd with h | ⟨h0, h1, h2⟩
   ·omega
   ·exact ⟨h0, h2⟩
  obtain ⟨h0, h2⟩ := hd2
  have a := ih (partK l d 0) (d + 1) (hs.part h0 h256 0) (.inr ⟨by omega, by omega, by omega⟩)
  have b := ih (partK l d 1) (d + 1) (hs.part h0 h256 1) (.inr ⟨by omega, by omega, by omega⟩)
  have hsum := parts_sum l h0 h256
  rw [growT_two f l d hl, rootK_two f n l d hl, joinT_inner _ _ (by rw [a.1, b.1, hsum]; exact hl)]
  refine ⟨?_, ?_⟩
  ·show lenT _ + lenT _ = _
   rw [a.1, b.1, hsum]
  ·show digL n (nodeL (digT n _) (digT n _)) = _
   rw [a.2, b.2]
theorem insK_pair (e : Ent) : ∀ l : List Ent, l.Pairwise (fun a b => a.k ≠ b.k) → (∀ x ∈ l, e.k ≠ x.k) → (insK e l).Pairwise (fun a b => a.k ≠ b.k)
 | [], _, _ => List.pairwise_singleton _ _
 | x :: r, hp, hx => by
  show List.Pairwise _ (if _ then _ else _ : List Ent)
  split
  ·exact List.pairwise_cons.2 ⟨hx, hp⟩
  ·refine List.pairwise_cons.2 ⟨fun y hy => ?_, insK_pair e r (List.pairwise_cons.1 hp).2 fun y hy => hx y (by simp [hy])⟩
   rcases (insK_mem e y r).1 hy with rfl | h
   ·exact (hx x (by simp)).symm
   ·exact (List.pairwise_cons.1 hp).1 y h
theorem putK_pair {l : List Ent} (e : Ent) (h : l.Pairwise (fun a b => a.k ≠ b.k)) : (putK l e).Pairwise (fun a b => a.k ≠ b.k) :=
 insK_pair e _ (h.filter _) fun x hx he => by
  have := (List.mem_filter.1 hx).2
  rw [decide_eq_true he.symm] at this
  cases this
theorem foldK_pair : ∀ (l m : List Ent), m.Pairwise (fun a b => a.k ≠ b.k) → (l.foldl putK m).Pairwise (fun a b => a.k ≠ b.k)
 | [], _, h => h
 | x :: r, m, h => foldK_pair r (putK m x) (putK_pair x h)
theorem ofK_sep (l : List Ent) (h : ∀ e ∈ l, e.k.length = 32) : Sep 0 (ofK l) where
 len := fun a ha => by
  rcases ofK_mem l [] a ha with h1 | h1
  ·simp at h1
  ·exact h a h1
 ne := foldK_pair l [] List.Pairwise.nil
 eq := fun a _ b _ i hi => by omega
end
section
open Go.RowKit
inductive Tv where
 | nil
 | leaf (v : Value) (e : Ent)
 | inner (v : Value) (a b : Tv)
def Tv.val : Tv → Value
 | .nil => .pointer none
 | .leaf v _ => v
 | .inner v _ _ => v
def Tv.tr : Tv → Tr
 | .nil => .nil
 | .leaf _ e => .leaf e
 | .inner _ a b => .inner a.tr b.tr
def kindT : Tr → Int
 | .nil => 0
 | .leaf _ => 1
 | .inner _ _ => 2
def Tv.left : Tv → Tv
 | .inner _ a _ => a
 | _ => .nil
def Tv.right : Tv → Tv
 | .inner _ _ b => b
 | _ => .nil
def Tv.child (T : Tv) (b : Int) : Tv := if b = 0 then T.left else T.right
def Tv.way (k : List UInt8) : Tv → Nat → List Tv
 | .inner v a b, d => .inner v a b :: (if bitK k d = 0 then way k a (d + 1) else way k b (d + 1))
 | t, _ => [t]
def Tv.sibs (k : List UInt8) : Tv → Nat → List Tv
 | .inner _ a b, d => if bitK k d = 0 then b :: sibs k a (d + 1) else a :: sibs k b (d + 1)
 | _, _ => []
def Tv.fin (k : List UInt8) : Tv → Nat → Tv
 | .inner _ a b, d => if bitK k d = 0 then fin k a (d + 1) else fin k b (d + 1)
 | t, _ => t
def Tv.dep (k : List UInt8) : Tv → Nat → Nat
 | .inner _ a b, d => if bitK k d = 0 then dep k a (d + 1) else dep k b (d + 1)
 | _, d => d
theorem way_len (k : List UInt8) : ∀ (T : Tv) (d : Nat), (T.way k d).length = (T.sibs k d).length + 1
 | .nil, _ => rfl
 | .leaf _ _, _ => rfl
 | .inner v a b, d => by
  unfold Tv.way Tv.sibs
  split
  ·rw [List.length_cons, List.length_cons, way_len k a (d + 1)]
  ·rw [List.length_cons, List.length_cons, way_len k b (d + 1)]
theorem sibs_len (k : List UInt8) : ∀ (T : Tv) (d : Nat), d + (T.sibs k d).length = T.dep k d
 | .nil, _ => rfl
 | .leaf _ _, _ => rfl
 | .inner v a b, d => by
  unfold Tv.sibs Tv.dep
  split
  ·rw [List.length_cons, ← sibs_len k a (d + 1)]; omega
  ·rw [List.length_cons, ← sibs_len k b (d + 1)]; omega
theorem way_last (k : List UInt8) : ∀ (T : Tv) (d : Nat), (T.way k d)[(T.sibs k d).length]? = some (T.fin k d)
 | .nil, _ => rfl
 | .leaf _ _, _ => rfl
 | .inner v a b, d => by
  unfold Tv.way Tv.sibs Tv.fin
  split
  ·rw [List.length_cons, List.getElem?_cons_succ, way_last k a (d + 1)]
  ·rw [List.length_cons, List.getElem?_cons_succ, way_last k b (d + 1)]
def dK (l : List Ent) (k : List UInt8) : Nat → List Ent
 | 0 => l
 | i + 1 => partK (dK l k i) i (bitK k i)
def sibK (l : List Ent) (k : List UInt8) (i : Nat) : List Ent := partK (dK l k i) i (1 - bitK k i)
theorem dK_sep {l : List Ent} (h : Sep 0 l) (k : List UInt8) : ∀ i : Nat, i ≤ 256 → Sep (i : Int) (dK l k i)
 | 0, _ => h
 | i + 1, hi => by
  have := (dK_sep h k i (by omega)).part (by omega) (by omega) (bitK k i)
  exact this
theorem sibK_sep {l : List Ent} (h : Sep 0 l) (k : List UInt8) (i : Nat) (hi : i < 256) : Sep ((i : Int) + 1) (sibK l k i) := (dK_sep h k i (by omega)).part (by omega) (by omega) _
structure At (l : List Ent) (k : List UInt8) (d : Nat) (T : Tv) : Prop where
 le : d ≤ 256
 tr : T.tr = growT (257 - d) (dK l k d) d
theorem bitK_01 (k : List UInt8) (d : Nat) (h : d < 256) : bitK k d = 0 ∨ bitK k d = 1 := by
 rw [bitK_in k (by omega) (by omega)]
 have := Bt.bit_lt (keyF k) (d : Int).toNat
 omega
theorem At.inner {l : List Ent} {k : List UInt8} {d : Nat} {v : Value} {a b : Tv} (hs : Sep 0 l) (h : At l k d (.inner v a b)) :
  d < 256 ∧ 2 ≤ (dK l k d).length ∧ At l k (d + 1) (if bitK k d = 0 then a else b) ∧ (if bitK k d = 0 then b else a).tr = growT (256 - d) (sibK l k d) (d + 1) := by
 have ht := h.tr
 have hle := h.le
 have hsd := dK_sep hs k d hle
 rcases Nat.lt_or_ge (dK l k d).length 2 with hl | hl
 ·match hm : dK l k d, hl with
  | [], _ => rw [hm, growT_none] at ht; cases ht
  | [e], _ => rw [hm, growT_one] at ht; cases ht
 have h256 : d < 256 := by have := hsd.two hl; omega
 rw [show 257 - d = (256 - d) + 1 by omega, growT_two _ _ _ hl] at ht
 have g0 := grow_both 0 (256 - d) (partK (dK l k d) d 0) (d + 1) (hsd.part (by omega) (by omega) 0) (.inr ⟨by omega, by omega, by omega⟩)
 have g1 := grow_both 0 (256 - d) (partK (dK l k d) d 1) (d + 1) (hsd.part (by omega) (by omega) 1) (.inr ⟨by omega, by omega, by omega⟩)
 have hsum := parts_sum (dK l k d) (d := d) (by omega) (by omega)
 rw [joinT_inner _ _ (by rw [g0.1, g1.1]; omega)] at ht
 injection ht with hta htb
 refine ⟨h256, hl, ?_⟩
 rcases bitK_01 k d h256 with hb | hb
 ·rw [if_pos hb, if_pos hb]
  refine ⟨⟨by omega, ?_⟩, ?_⟩
  ·rw [hta, show 257 - (d + 1) = 256 - d by omega]
   show _ = growT _ (partK (dK l k d) d (bitK k d)) _
   rw [hb]
   rfl
  ·rw [htb]
   unfold sibK
   rw [hb]
   rfl
 ·rw [if_neg (by omega), if_neg (by omega)]
  refine ⟨⟨by omega, ?_⟩, ?_⟩
  ·rw [htb, show 257 - (d + 1) = 256 - d by omega]
   show _ = growT _ (partK (dK l k d) d (bitK k d)) _
   rw [hb]
   rfl
  ·rw [hta]
   unfold sibK
   rw [hb]
   rfl
theorem At.few {l : List Ent} {k : List UInt8} {d : Nat} {T : Tv} (hs : Sep 0 l) (h : At l k d T) (hk : kindT T.tr ≠ 2) : (dK l k d).length ≤ 1 := by
 have ht := h.tr
 have hle := h.le
 have hsd := dK_sep hs k d hle
 refine Classical.byContradiction fun hl => hk ?_
 have h256 : d < 256 := by have := hsd.two (by omega); omega
 rw [show 257 - d = (256 - d) + 1 by omega, growT_two _ _ _ (by omega)] at ht
 have g0 := grow_both 0 (256 - d) (partK (dK l k d) d 0) (d + 1) (hsd.part (by omega) (by omega) 0) (.inr ⟨by omega, by omega, by omega⟩)
 have g1 := grow_both 0 (256 - d) (partK (dK l k d) d 1) (d + 1) (hsd.part (by omega) (by omega) 1) (.inr ⟨by omega, by omega, by omega⟩)
 have hsum := parts_sum (dK l k d) (d := d) (by omega) (by omega)
 rw [joinT_inner _ _ (by rw [g0.1, g1.1]; omega)] at ht
 rw [ht]
 rfl
theorem At.nil {l : List Ent} {k : List UInt8} {d : Nat} {T : Tv} (h : At l k d T) (hl : dK l k d = []) : T.tr = .nil := by rw [h.tr, hl, growT_none]
theorem At.one {l : List Ent} {k : List UInt8} {d : Nat} {T : Tv} {e : Ent} (h : At l k d T) (hl : dK l k d = [e]) : T.tr = .leaf e := by rw [h.tr, hl, growT_one]
end
section
open Go.RowKit
theorem At.fin {l : List Ent} {k : List UInt8} (hs : Sep 0 l) : ∀ (T : Tv) (d : Nat), At l k d T →
  At l k (T.dep k d) (T.fin k d) ∧ kindT (T.fin k d).tr ≠ 2 ∧ (∀ j, d ≤ j → j < T.dep k d → 2 ≤ (dK l k j).length)
 | .nil, d, h => ⟨h, by show (0 : Int) ≠ 2; decide, fun j h1 h2 => absurd h2 (by show ¬ j < d; omega)⟩
 | .leaf v e, d, h => ⟨h, by show (1 : Int) ≠ 2; decide, fun j h1 h2 => absurd h2 (by show ¬ j < d; omega)⟩
 | .inner v a b, d, h => by
  obtain ⟨h256, h2, hc, _⟩ := h.inner hs
  unfold Tv.fin Tv.dep
  by_cases hb : bitK k d = 0
  ·rw [if_pos hb] at hc
   rw [if_pos hb, if_pos hb]
   obtain ⟨i1, i2, i3⟩ := At.fin hs a (d + 1) hc
   refine ⟨i1, i2, fun j h1 h3 => ?_⟩
   rcases Nat.eq_or_lt_of_le h1 with rfl | h1
   ·exact h2
   ·exact i3 j h1 h3
  ·rw [if_neg hb] at hc
   rw [if_neg hb, if_neg hb]
   obtain ⟨i1, i2, i3⟩ := At.fin hs b (d + 1) hc
   refine ⟨i1, i2, fun j h1 h3 => ?_⟩
   rcases Nat.eq_or_lt_of_le h1 with rfl | h1
   ·exact h2
   ·exact i3 j h1 h3
theorem At.way {l : List Ent} {k : List UInt8} (hs : Sep 0 l) : ∀ (T : Tv) (d : Nat), At l k d T → ∀ (i : Nat) (T' : Tv), (T.way k d)[i]? = some T' → At l k (d + i) T'
 | .nil, d, h, i, T', hi => by
  cases i with
  | zero => cases hi; exact h
  | succ i => cases hi
 | .leaf v e, d, h, i, T', hi => by
  cases i with
  | zero => cases hi; exact h
  | succ i => cases hi
 | .inner v a b, d, h, i, T', hi => by
  obtain ⟨h256, h2, hc, _⟩ := h.inner hs
  unfold Tv.way at hi
  cases i with
  | zero => cases hi; exact h
  | succ i =>
   rw [List.getElem?_cons_succ] at hi
   rw [show d + (i + 1) = d + 1 + i by omega]
   by_cases hb : bitK k d = 0
   ·rw [if_pos hb] at hc hi
    exact At.way hs a (d + 1) hc i T' hi
   ·rw [if_neg hb] at hc hi
    exact At.way hs b (d + 1) hc i T' hi
structure SibAt (l : List Ent) (k : List UInt8) (i : Nat) (S : Tv) : Prop where
 lt : i < 256
 tr : S.tr = growT (256 - i) (sibK l k i) ((i : Int) + 1)
theorem At.sib {l : List Ent} {k : List UInt8} (hs : Sep 0 l) (T : Tv) : ∀ (d : Nat), At l k d T → ∀ (i : Nat) (S : Tv), (T.sibs k d)[i]? = some S → SibAt l k (d + i) S := by
 induction T with
 | nil => intro d _ i S hi; unfold Tv.sibs at hi; simp at hi
 | leaf v e => intro d _ i S hi; unfold Tv.sibs at hi; simp at hi
 | inner v a b iha ihb =>
  intro d h i S hi
  obtain ⟨h256, h2, hc, ht⟩ := h.inner hs
  unfold Tv.sibs at hi
  by_cases hb : bitK k d = 0
  ·rw [if_pos hb] at hc hi ht
   cases i with
   | zero =>
    rw [List.getElem?_cons_zero] at hi
    rw [← Option.some.inj hi]
    exact ⟨h256, ht⟩
   | succ i =>
    rw [List.getElem?_cons_succ] at hi
    rw [show d + (i + 1) = d + 1 + i by omega]
    exact iha (d + 1) hc i S hi
  ·rw [if_neg hb] at hc hi ht
   cases i with
   | zero =>
    rw [List.getElem?_cons_zero] at hi
    rw [← Option.some.inj hi]
    exact ⟨h256, ht⟩
   | succ i =>
    rw [List.getElem?_cons_succ] at hi
    rw [show d + (i + 1) = d + 1 + i by omega]
    exact ihb (d + 1) hc i S hi
theorem At.top {l : List Ent} {T : Tv} (k : List UInt8) (h : T.tr = growT 257 l 0) : At l k 0 T := ⟨by decide, h⟩
theorem dep_eq {l : List Ent} {k : List UInt8} (hs : Sep 0 l) {T : Tv} (hT : At l k 0 T) {D : Nat} (h1 : ∀ j, j < D → 2 ≤ (dK l k j).length) (h2 : (dK l k D).length ≤ 1) : T.dep k 0 = D := by
 obtain ⟨i1, i2, i3⟩ := At.fin hs T 0 hT
 have hf := i1.few hs i2
 rcases Nat.lt_trichotomy (T.dep k 0) D with h | h | h
 ·have := h1 _ h; omega
 ·exact h
 ·have := i3 D (Nat.zero_le _) h; omega
def comK (a b : List UInt8) : Nat := Bt.common (keyF a) (keyF b)
theorem com_bits {a b : List UInt8} {i : Nat} (hi : i ≤ 256) : i ≤ comK a b ↔ ∀ j, j < i → bitK a j = bitK b j := by
 obtain ⟨c1, c2, c3⟩ := Bt.common_spec (keyF a) (keyF b)
 constructor
 ·intro h j hj
  have hc : i ≤ Bt.common (keyF a) (keyF b) := h
  rw [bitK_in a (by omega) (by omega), bitK_in b (by omega) (by omega), c2 _ (by omega)]
 ·intro h
  refine Classical.byContradiction fun hn => ?_
  have hlt : Bt.common (keyF a) (keyF b) < i := Nat.lt_of_not_le hn
  have h1 := c3 (by omega)
  have h2 := h _ hlt
  rw [bitK_in a (by omega) (by omega), bitK_in b (by omega) (by omega)] at h2
  rw [Int.toNat_natCast] at h2
  exact h1 (Int.ofNat.inj h2)
def Tv.under (k : List UInt8) (b : Nat) (T : Tv) : Tv :=
 match (T.way k 0)[b]? with
 | some S => S
 | none => match T.fin k 0 with
  | .leaf v e => if b ≤ comK e.k k then .leaf v e else .nil
  | _ => .nil
end
end Go.Proofs.YtmfbhohjpkmllaaGreatDoor
