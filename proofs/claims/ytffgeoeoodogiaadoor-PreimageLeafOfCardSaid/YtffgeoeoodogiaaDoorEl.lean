/- The reference's LeafOf; the walk of PreimageLeafOf over contracts (regions by program: gen-tpl6-leafof.py). -/
import Derived.Test.YtffgeoeoodogiaaDoorEf
import Derived.Test.YtffgeoeoodogiaaDoorEc
import Derived.Test.YtffgeoeoodogiaaDoorDn
import Derived.Test.YtffgeoeoodogiaaDoorRt
namespace Go.Proofs.YtffgeoeoodogiaaDoor
open Go.RowKit

theorem RowB.ldKey {w : World} {b : Nat} {t : TypeId} {l : List UInt8} (h : RowB w b t l) (hl : l.length = 32) : ldA 23 w (.pointer (some ⟨b, 0, none⟩)) = .ok (.value (.agg (bA l))) w :=
  ldA_row h Tryd.underlying23 (by rw [bA_size, hl]; exact infoKey)
theorem RowB.keep {L : Nat → Prop} {w w' : World} {b : Nat} {t : TypeId} {l : List UInt8} (h : RowB w b t l) (k : Keep L w w') (hl : ¬ L b) : RowB w' b t l := k.heap h hl
set_option maxHeartbeats 8000000 in
set_option maxRecDepth 100000 in
theorem rleafof_c (n : Int) (k : List UInt8) (A : Option Addr) (c : Nat) (l : List UInt8) (W : World) (hk : k.length = 32) (hA : BA W A l) (hl : l.length ≤ 1000) :
    Calls Tryd.prog 8 #[.int .i64 n, .agg (bA k), .slice A l.length c] W fun e w' => e = .returned (.agg (bA (k ++ digL n (valL l)))) ∧ Below W.heap.size W w' := by
  obtain ⟨g, hg⟩ : ∃ g, g = digL n (valL l) := ⟨_, rfl⟩
  have hgl : g.length = 32 := by rw [hg]; exact dig_len _ _
  have HS : Hid (∀ w A c, BA w A (valL l) → Calls Tryd.prog 18 #[.int .i64 n, .slice A (valL l).length c] w fun e w' => e = .returned (.agg (bA g)) ∧ Below w.heap.size w w') := fun w A c h => by
    rw [hg]; exact rdig_c n A c (valL l) w h (by rw [val_len]; omega)
  have bl := bldLeaf k g hk hgl
  have HKG : Hid ((k ++ g).length = 64) := by show _ = _; rw [List.length_append, hk, hgl]
  rw [← hg]
  obtain ⟨X, hX⟩ : ∃ X, X = (W.alloc (.cells (bA k) 23)).alloc (.cells (bA z64) 33) := ⟨_, rfl⟩
  have HX := Lib.hid hX
  have hb : Below W.heap.size W X := by rw [hX]; exact ((Below.refl _ _).alloc (Nat.le_refl _) _).alloc (by simp) _
  have k0 : RowB X W.heap.size 23 k := by rw [hX]; exact heap_alloc2_old W _ _
  have r0 : RowB X (W.heap.size + 1) 33 z64 := by rw [hX]; exact heap_alloc2_new W _ _
  have LK : Hid (∀ w', Keep (fun i => i = W.heap.size + 1) X w' → ldA 23 w' (.pointer (some ⟨W.heap.size, 0, none⟩)) = .ok (.value (.agg (bA k))) w') := fun w' h => (k0.keep h (by omega)).ldKey hk
  have HBf : Hid (∀ w', Keep (fun i => i = W.heap.size + 1) X w' → Below W.heap.size W w') := fun w' h => hb.trans (h.below hb.size fun i hi => by omega)
  have HBA : Hid (∀ w', Keep (fun i => i = W.heap.size + 1) X w' → BA w' A l) := fun w' h => hA.below (HBf.out w' h)
  have HRW : Hid (RowB X.drew (W.heap.size + 1) 33 z64) := r0
  clear hg hk hA hX hb k0 r0 hgl
  go_enter Tryd.func8, Tryd.ntmps8
  go_wp2_with fail
  rw [← HX.out]
  clear HX
  refine wp_region_held_drew (S := fun w' => Keep (fun i => i = W.heap.size + 1) X w') (by kernel_rfl) ((Keep.refl _ _).drew) (fun hHeld => ?_)
  have hb0 : Keep (fun i => i = W.heap.size + 1) X X.drew := (Keep.refl _ _).drew
  refine wpAnyH_take (i := 0) (oi := { dst := some 7, op := .load _ (.tmp 4), type := _, pos := _, after := _, guard := _ }) (v := ?_) rfl (by kernel_rfl) (by kernel_rfl) (by kernel_rfl) (fun _ _ _ h => h) (Or.inl ⟨by rfl, ?_⟩) (by assumption) ?_
  rotate_left 1
  · intro v hSv
    have hv1 := LK.out v hSv
    clear hSv
    go_simp
    try with_reducible rfl
  try simp only [Act.put, List.setIfInBounds_toArray, List.set_cons_zero, List.set_cons_succ]
  refine wpAnyH_take (i := 1) (oi := { dst := some 8, op := .move (.tmp 0), type := _, pos := _, after := _, guard := _ }) (v := ?_) rfl (by kernel_rfl) (by kernel_rfl) (by kernel_rfl) (fun _ _ _ h => h) (Or.inl ⟨by rfl, ?_⟩) (by assumption) ?_
  rotate_left 1
  · intro v hSv
    clear hSv
    go_simp
    try with_reducible rfl
  try simp only [Act.put, List.setIfInBounds_toArray, List.set_cons_zero, List.set_cons_succ]
  refine wpAnyH_take (i := 2) (oi := { dst := some 9, op := .move (.tmp 2), type := _, pos := _, after := _, guard := _ }) (v := ?_) rfl (by kernel_rfl) (by kernel_rfl) (by kernel_rfl) (fun _ _ _ h => h) (Or.inl ⟨by rfl, ?_⟩) (by assumption) ?_
  rotate_left 1
  · intro v hSv
    clear hSv
    go_simp
    try with_reducible rfl
  try simp only [Act.put, List.setIfInBounds_toArray, List.set_cons_zero, List.set_cons_succ]
  refine wpAnyH_ready (rs := [3]) (by kernel_rfl) (by simp) ?_
  refine AllReadyH.cons (o := { dst := some 10, op := .call _, type := _, pos := _, after := _, guard := _ }) rfl (fun K hK => ?_) AllReadyH.nil
  go_simp
  refine (rval_c A c l _ (HBA.out _ (hb0)) (by omega)).mono ?_
  rintro e y1 ⟨v, rfl, hO, hb⟩
  have hb1 : Keep (fun i => i = W.heap.size + 1) X y1 := (hb0).trans (Keep.of_below hb)
  obtain ⟨A1, c1, rfl, hc1, hA1⟩ := hO.any
  have HRW := Lib.hid (HRW.out.below hb)
  clear hb
  go_wp2_with fail
  refine hK.out _ _ (hb1) (fun hHeld => ?_)
  clear hK K
  try simp only [Act.put, List.setIfInBounds_toArray, List.set_cons_zero, List.set_cons_succ]
  refine wpAnyH_ready (rs := [4]) (by kernel_rfl) (by simp) ?_
  refine AllReadyH.cons (o := { dst := some 11, op := .call _, type := _, pos := _, after := _, guard := _ }) rfl (fun K hK => ?_) AllReadyH.nil
  go_simp
  refine (HS.out _ A1 c1 hA1).mono ?_
  rintro e y2 ⟨rfl, hb⟩
  have hb2 : Keep (fun i => i = W.heap.size + 1) X y2 := (hb1).trans (Keep.of_below hb)
  have HRW := Lib.hid (HRW.out.below hb)
  clear hb
  go_wp2_with fail
  refine hK.out _ _ (hb2) (fun hHeld => ?_)
  clear hK K
  try simp only [Act.put, List.setIfInBounds_toArray, List.set_cons_zero, List.set_cons_succ]
  refine wpAnyH_take (i := 5) (oi := { dst := some 12, op := .build _ #[(0, .tmp 7), (1, .tmp 11)], type := _, pos := _, after := _, guard := _ }) (v := ?_) rfl (by kernel_rfl) (by kernel_rfl) (by kernel_rfl) (fun _ _ _ h => h) (Or.inl ⟨by rfl, ?_⟩) (by assumption) ?_
  rotate_left 1
  · intro v hSv
    have hv1 := bl v
    clear hSv
    go_simp
    try with_reducible rfl
  try simp only [Act.put, List.setIfInBounds_toArray, List.set_cons_zero, List.set_cons_succ]
  refine wpAnyH_ready (rs := [6]) (by kernel_rfl) (by simp) ?_
  refine AllReadyH.cons (o := { dst := none, op := .store _ (.tmp 6) (.tmp 12), type := _, pos := _, after := _, guard := _ }) rfl (fun K hK => ?_) AllReadyH.nil
  have HRr := HRW
  have st1 : stA 33 y2 (.pointer (some ⟨W.heap.size + 1, 0, none⟩)) (.agg (bA (k ++ g))) = .ok .skip (y2.setRow (W.heap.size + 1) (bA (k ++ g))) := stA_row HRr.out (by rw [bA_size, HKG.out]; exact infoLeaf) (by rw [bA_size, bA_size, HKG.out]; rfl) (bA_one _)
  have HM := Lib.hid (setRow_heap y2 (W.heap.size + 1) _ (bA (k ++ g)) _ _ HRr.out)
  go_simp
  refine hK.out _ _ ((hb2).trans (Keep.row y2 (W.heap.size + 1) _)) (fun hHeld => ?_)
  clear hK K
  try simp only [Act.put, List.setIfInBounds_toArray, List.set_cons_zero, List.set_cons_succ]
  refine wpAnyH_done (by kernel_rfl) ?_ _
  go_wp2_with fail
  refine bodyPost_ret (v := .agg (bA (k ++ g))) ?_ rfl ⟨rfl, HBf.out _ ((hb2).trans (Keep.row y2 (W.heap.size + 1) _))⟩
  exact results_cell_row Tryd.results8 _ _ (W.heap.size + 1) 33 _ (0, 0) _ rfl HM.out Tryd.underlying33 rfl (by rw [bA_size, HKG.out]; exact infoLeaf)
/-- What the program's LeafOf keeps. -/
def LeafOfC : Prop := ∀ (b : Nat) (n : Int) (m : Nat) (k : List UInt8) (A : Option Addr) (c : Nat) (l : List UInt8) (w : World), Hs w b n m → m ≤ 1000000 → k.length = 32 → BA w A l → l.length ≤ c → l.length ≤ 1000 → Vars w →
  Calls Tryd.prog 7 #[ptr b, .agg (bA k), .slice A l.length c] w fun e w' => e = .returned (.agg (bA (k ++ digL n (valL l)))) ∧ Keep (fun i => i = b) w w'
set_option maxHeartbeats 4000000 in
set_option maxRecDepth 100000 in
theorem leafof_out (ha : AliveC) (n : Int) (k : List UInt8) (A : Option Addr) (c : Nat) (l : List UInt8) (W : World) (h : (n < 0 ∨ 256 < n) ∨ 1000 < l.length) :
    Calls Tryd.prog 3 #[.int .i64 n, .agg (bA k), .slice A l.length c] W (Yes W) := by
  have HA := Lib.hid ha
  have HB0 : Hid (Below W.heap.size W (W.alloc (.cells (bA k) 23))) := (Below.refl _ _).alloc (Nat.le_refl _) _
  clear ha
  by_cases hn : n < 0 ∨ 256 < n
  · have HR : Hid (∀ w, Calls Tryd.prog 4 #[.int .i64 n] w fun e w' => e = .returned (.bool false) ∧ w = w') := fun w => by
      have := right5_c n w
      rwa [decide_eq_false (by omega)] at this
    clear h hn
    go_enter Tryd.func3, Tryd.ntmps3
    go_wp2_with fail
    refine (HR.out _).mono ?_
    rintro e w1 ⟨rfl, rfl⟩
    go_wp2_with fail
    refine (HA.out _).mono ?_
    rintro e w2 ⟨rfl, hb⟩
    have HB := Lib.hid (keeps HB0.out hb)
    clear hb
    go_wp2_with fail
    go_ret
    exact ⟨rfl, HB.out⟩
  · have HR : Hid (∀ w, Calls Tryd.prog 4 #[.int .i64 n] w fun e w' => e = .returned (.bool true) ∧ w = w') := fun w => by
      have := right5_c n w
      rwa [decide_eq_true (by omega)] at this
    have h2 : 1000 < l.length := by omega
    have d1 : decide (1000 < l.length) = true := decide_eq_true h2
    have d2 : decide (1000 < (l.length : Int)) = true := decide_eq_true (by omega)
    clear h hn
    go_enter Tryd.func3, Tryd.ntmps3
    go_wp2_with fail
    refine (HR.out _).mono ?_
    rintro e w1 ⟨rfl, rfl⟩
    go_wp2_with fail
    refine (HA.out _).mono ?_
    rintro e w2 ⟨rfl, hb⟩
    have HB := Lib.hid (keeps HB0.out hb)
    clear hb
    go_wp2_with fail
    go_ret
    exact ⟨rfl, HB.out⟩
set_option maxHeartbeats 8000000 in
set_option maxRecDepth 100000 in
theorem leafof_in (hp : LeafOfC) (ha : AliveC) (n : Int) (k : List UInt8) (A : Option Addr) (c : Nat) (l : List UInt8) (W : World) (hk : k.length = 32) (hA : BA W A l) (hc : l.length ≤ c) (hl : l.length ≤ 1000) (hv : Vars W) (h0 : 0 ≤ n) (h1 : n ≤ 256) :
    Calls Tryd.prog 3 #[.int .i64 n, .agg (bA k), .slice A l.length c] W (Yes W) := by
  have HR : Hid (∀ w, Calls Tryd.prog 4 #[.int .i64 n] w fun e w' => e = .returned (.bool true) ∧ w = w') := fun w => by
    have := right5_c n w
    rwa [decide_eq_true ⟨h0, h1⟩] at this
  have d1 : decide (1000 < l.length) = false := decide_eq_false (by omega)
  have d2 : decide (1000 < (l.length : Int)) = false := decide_eq_false (by omega)
  have HL := Lib.hid hp
  have HA := Lib.hid ha
  have HK := Lib.hid hk
  have HV := Lib.hid hv
  have HBW := Lib.hid hA
  have HN := Lib.hid (fun w => new_c n w h0 h1)
  have HB0 : Hid (Below W.heap.size W (W.alloc (.cells (bA k) 23))) := (Below.refl _ _).alloc (Nat.le_refl _) _
  have HK0 := Lib.hid (RowB.alloc W k 23)
  have HSZ : Hid (W.heap.size < (W.alloc (.cells (bA k) 23)).heap.size) := by show _ < _; simp
  have ELL : Hid (∀ x y w, eqA .eql 33 x y w (.agg (bA (k ++ digL n (valL l)))) (.agg (bA (k ++ digL n (valL l)))) = .ok (.value (.bool true)) w) := fun x y w => by
    rw [eqLeaf _ _ (by rw [List.length_append, hk, dig_len]) (by rw [List.length_append, hk, dig_len]), decide_eq_true rfl]
  clear hp ha hk hA hv
  go_enter Tryd.func3, Tryd.ntmps3
  go_wp2_with fail
  refine (HR.out _).mono ?_
  rintro e w1 ⟨rfl, rfl⟩
  go_wp2_with fail
  refine (HN.out _).mono ?_
  rintro e X ⟨b, rfl, hb, hh, hbel⟩
  have hx : Below W.heap.size W X := keeps HB0.out hbel
  have hbW : W.heap.size < b := Nat.lt_of_lt_of_le HSZ.out hb
  have k0 : RowB X W.heap.size 23 k := HK0.out.below hbel
  have hvs := hh.vars (HV.out.below hx)
  have HH := Lib.hid hh
  have LK : Hid (∀ w', Keep (fun i => i = b) X w' → ldA 23 w' (.pointer (some ⟨W.heap.size, 0, none⟩)) = .ok (.value (.agg (bA k))) w') := fun w' h => (k0.keep h (by omega)).ldKey HK.out
  have HBf : Hid (∀ w', Keep (fun i => i = b) X w' → Below W.heap.size W w') := fun w' h => hx.trans (h.below hx.size fun i hi => by omega)
  have HBA : Hid (∀ w', Keep (fun i => i = b) X w' → BA w' A l) := fun w' h => HBW.out.below (HBf.out w' h)
  have HVV : Hid (∀ w', Keep (fun i => i = b) X w' → Vars w') := fun w' h => (HV.out.below hx).keep h (fun e => hvs.1 e.symm) (fun e => hvs.2 e.symm)
  clear hb hh hbel hx hbW k0 hvs HN HR HB0 HK0 HSZ d1 d2
  go_wp2_with fail
  have el := ELL.out
  refine wp_region_held_drew (S := fun w' => Keep (fun i => i = b) X w') (by kernel_rfl) ((Keep.refl _ _).drew) (fun hHeld => ?_)
  have hb0 : Keep (fun i => i = b) X X.drew := (Keep.refl _ _).drew
  refine wpAnyH_ready (rs := [0]) (by kernel_rfl) (by simp) ?_
  refine AllReadyH.cons (o := { dst := some 29, op := .call _, type := _, pos := _, after := _, guard := _ }) rfl (fun K hK => ?_) AllReadyH.nil
  go_simp
  refine (HA.out _).mono ?_
  rintro e y1 ⟨rfl, hb⟩
  have hb1 : Keep (fun i => i = b) X y1 := (hb0).trans (Keep.of_below hb)
  have y1k : Keep (fun _ => False) X y1 := ((Keep.refl _ X).drew).trans (Keep.of_below hb)
  clear hb
  go_wp2_with fail
  refine hK.out _ _ (hb1) (fun hHeld => ?_)
  clear hK K
  try simp only [Act.put, List.setIfInBounds_toArray, List.set_cons_zero, List.set_cons_succ]
  refine wpAnyH_take (i := 1) (oi := { dst := some 30, op := .move (.tmp 29), type := _, pos := _, after := _, guard := _ }) (v := ?_) rfl (by kernel_rfl) (by kernel_rfl) (by kernel_rfl) (fun _ _ _ h => h) (Or.inl ⟨by rfl, ?_⟩) (by assumption) ?_
  rotate_left 1
  · intro v hSv
    clear hSv
    go_simp
    try with_reducible rfl
  try simp only [Act.put, List.setIfInBounds_toArray, List.set_cons_zero, List.set_cons_succ]
  refine wpAnyH_take (i := 2) (oi := { dst := some 31, op := .move (.tmp 7), type := _, pos := _, after := _, guard := _ }) (v := ?_) rfl (by kernel_rfl) (by kernel_rfl) (by kernel_rfl) (fun _ _ _ h => h) (Or.inl ⟨by rfl, ?_⟩) (by assumption) ?_
  rotate_left 1
  · intro v hSv
    clear hSv
    go_simp
    try with_reducible rfl
  try simp only [Act.put, List.setIfInBounds_toArray, List.set_cons_zero, List.set_cons_succ]
  refine wpAnyH_take (i := 3) (oi := { dst := some 32, op := .load _ (.tmp 4), type := _, pos := _, after := _, guard := _ }) (v := ?_) rfl (by kernel_rfl) (by kernel_rfl) (by kernel_rfl) (fun _ _ _ h => h) (Or.inl ⟨by rfl, ?_⟩) (by assumption) ?_
  rotate_left 1
  · intro v hSv
    have hv1 := LK.out v hSv
    clear hSv
    go_simp
    try with_reducible rfl
  try simp only [Act.put, List.setIfInBounds_toArray, List.set_cons_zero, List.set_cons_succ]
  refine wpAnyH_take (i := 4) (oi := { dst := some 33, op := .move (.tmp 2), type := _, pos := _, after := _, guard := _ }) (v := ?_) rfl (by kernel_rfl) (by kernel_rfl) (by kernel_rfl) (fun _ _ _ h => h) (Or.inl ⟨by rfl, ?_⟩) (by assumption) ?_
  rotate_left 1
  · intro v hSv
    clear hSv
    go_simp
    try with_reducible rfl
  try simp only [Act.put, List.setIfInBounds_toArray, List.set_cons_zero, List.set_cons_succ]
  refine wpAnyH_take (i := 6) (oi := { dst := some 35, op := .move (.tmp 0), type := _, pos := _, after := _, guard := _ }) (v := ?_) rfl (by kernel_rfl) (by kernel_rfl) (by kernel_rfl) (fun _ _ _ h => h) (Or.inl ⟨by rfl, ?_⟩) (by assumption) ?_
  rotate_left 1
  · intro v hSv
    clear hSv
    go_simp
    try with_reducible rfl
  try simp only [Act.put, List.setIfInBounds_toArray, List.set_cons_zero, List.set_cons_succ]
  refine wpAnyH_take (i := 7) (oi := { dst := some 36, op := .load _ (.tmp 4), type := _, pos := _, after := _, guard := _ }) (v := ?_) rfl (by kernel_rfl) (by kernel_rfl) (by kernel_rfl) (fun _ _ _ h => h) (Or.inl ⟨by rfl, ?_⟩) (by assumption) ?_
  rotate_left 1
  · intro v hSv
    have hv1 := LK.out v hSv
    clear hSv
    go_simp
    try with_reducible rfl
  try simp only [Act.put, List.setIfInBounds_toArray, List.set_cons_zero, List.set_cons_succ]
  refine wpAnyH_take (i := 8) (oi := { dst := some 37, op := .move (.tmp 2), type := _, pos := _, after := _, guard := _ }) (v := ?_) rfl (by kernel_rfl) (by kernel_rfl) (by kernel_rfl) (fun _ _ _ h => h) (Or.inl ⟨by rfl, ?_⟩) (by assumption) ?_
  rotate_left 1
  · intro v hSv
    clear hSv
    go_simp
    try with_reducible rfl
  try simp only [Act.put, List.setIfInBounds_toArray, List.set_cons_zero, List.set_cons_succ]
  refine wpAnyH_ready (rs := [5]) (by kernel_rfl) (by simp) ?_
  refine AllReadyH.cons (o := { dst := some 34, op := .call _, type := _, pos := _, after := _, guard := _ }) rfl (fun K hK => ?_) AllReadyH.nil
  go_simp
  refine (HL.out b n 0 k A c l _ (HH.out.keep y1k fun h => h) (by decide) HK.out (HBA.out _ (hb1)) hc hl (HVV.out _ (hb1))).mono ?_
  rintro e y2 ⟨rfl, hb⟩
  have hb2 : Keep (fun i => i = b) X y2 := (hb1).trans hb
  clear hb
  go_wp2_with fail
  refine hK.out _ _ (hb2) (fun hHeld => ?_)
  clear hK K
  try simp only [Act.put, List.setIfInBounds_toArray, List.set_cons_zero, List.set_cons_succ]
  refine wpAnyH_ready (rs := [9]) (by kernel_rfl) (by simp) ?_
  refine AllReadyH.cons (o := { dst := some 38, op := .call _, type := _, pos := _, after := _, guard := _ }) rfl (fun K hK => ?_) AllReadyH.nil
  go_simp
  refine (rleafof_c n k A c l _ HK.out (HBA.out _ (hb2)) hl).mono ?_
  rintro e y3 ⟨rfl, hb⟩
  have hb3 : Keep (fun i => i = b) X y3 := (hb2).trans (Keep.of_below hb)
  clear hb
  go_wp2_with fail
  refine hK.out _ _ (hb3) (fun hHeld => ?_)
  clear hK K
  try simp only [Act.put, List.setIfInBounds_toArray, List.set_cons_zero, List.set_cons_succ]
  refine wpAnyH_take (i := 10) (oi := { dst := some 39, op := .binOp .eql _ (.tmp 34) (.tmp 38) _, type := _, pos := _, after := _, guard := _ }) (v := ?_) rfl (by kernel_rfl) (by kernel_rfl) (by kernel_rfl) (fun _ _ _ h => h) (Or.inl ⟨by rfl, ?_⟩) (by assumption) ?_
  rotate_left 1
  · intro v hSv
    clear hSv
    go_simp
    try with_reducible rfl
  try simp only [Act.put, List.setIfInBounds_toArray, List.set_cons_zero, List.set_cons_succ]
  refine wpAnyH_take (i := 11) (oi := { dst := some 40, op := .pick (.tmp 30) (.tmp 39) (.const (.bool false)), type := _, pos := _, after := _, guard := _ }) (v := ?_) rfl (by kernel_rfl) (by kernel_rfl) (by kernel_rfl) (fun _ _ _ h => h) (Or.inl ⟨by rfl, ?_⟩) (by assumption) ?_
  rotate_left 1
  · intro v hSv
    clear hSv
    go_simp
    try with_reducible rfl
  try simp only [Act.put, List.setIfInBounds_toArray, List.set_cons_zero, List.set_cons_succ]
  refine wpAnyH_take (i := 12) (oi := { dst := some 6, op := .assign (.tmp 40), type := _, pos := _, after := _, guard := _ }) (v := ?_) rfl (by kernel_rfl) (by kernel_rfl) (by kernel_rfl) (fun _ _ _ h => h) (Or.inl ⟨by rfl, ?_⟩) (by assumption) ?_
  rotate_left 1
  · intro v hSv
    clear hSv
    go_simp
    try with_reducible rfl
  try simp only [Act.put, List.setIfInBounds_toArray, List.set_cons_zero, List.set_cons_succ]
  refine wpAnyH_done (by kernel_rfl) ?_ _
  go_wp2_with fail
  go_ret
  exact ⟨rfl, HBf.out _ (hb3)⟩
theorem leafof_w (hp : LeafOfC) (ha : AliveC) (n : Int) (k : List UInt8) (A : Option Addr) (c : Nat) (l : List UInt8) (W : World) (hk : k.length = 32) (hA : BA W A l) (hc : l.length ≤ c) (hv : Vars W) :
    Calls Tryd.prog 3 #[.int .i64 n, .agg (bA k), .slice A l.length c] W (Yes W) := by
  rcases Classical.em ((n < 0 ∨ 256 < n) ∨ 1000 < l.length) with h | h
  · exact leafof_out ha n k A c l W h
  · exact leafof_in hp ha n k A c l W hk hA hc (by omega) hv (by omega) (by omega)
end Go.Proofs.YtffgeoeoodogiaaDoor
