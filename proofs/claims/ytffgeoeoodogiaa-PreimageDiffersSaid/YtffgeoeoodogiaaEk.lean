/- The walk of PreimageDiffers (its regions by program: gen-tpl6-differs.py). -/
import Derived.Test.YtffgeoeoodogiaaEf
import Derived.Test.YtffgeoeoodogiaaEh
namespace Go.Proofs.Ytffgeoeoodogiaa
open Go.RowKit

theorem ldA_mid {t : TypeId} {d : TypeDesc} {w : World} {b o : Nat} {cs : List Value} (h : w.rangeAt b o cs) (hu : Try.prog.underlying t = some d) (hd : d.isRow = true) (hi : (Try.prog.info? t).map (·.size) = some cs.length) :
    ldA t w (.pointer (some ⟨b, o, none⟩)) = .ok (.value (.agg cs.toArray)) w := by
  unfold ldA
  rw [Sem.run_bind, run_loadAt_mid (P := Try.prog) w b o t cs d h hu hd hi]
  simp [Sem.run_pure, Result.andThen_ok]
/-- A leaf, a digest within an array of leaves. -/
theorem RowB.leafAt {w : World} {b : Nat} {t : TypeId} {l p : List UInt8} (h : RowB w b t l) (o : Nat) (hp : (l.drop o).take 64 = p) (hl : p.length = 64) : ldA 26 w (.pointer (some ⟨b, o, none⟩)) = .ok (.value (.agg (bA p))) w := by
  have := ldA_mid (t := 26) (range_row h o 64) Try.underlying26 rfl (by rw [hp, List.length_map, hl]; exact infoLeaf)
  rw [hp] at this
  exact this
theorem RowB.digAt {w : World} {b : Nat} {t : TypeId} {l p : List UInt8} (h : RowB w b t l) (o : Nat) (hp : (l.drop o).take 32 = p) (hl : p.length = 32) : ldA 24 w (.pointer (some ⟨b, o, none⟩)) = .ok (.value (.agg (bA p))) w := by
  have := ldA_part (t := 24) h o Try.underlying24 (by rw [hp, hl]; exact info26)
  rwa [hp] at this
theorem cut_mid (p q r : List UInt8) : ((p ++ (q ++ r)).drop p.length).take q.length = q := by
  rw [List.drop_left', List.take_left'] <;> rfl
theorem decide_iff {p q : Prop} [Decidable p] [Decidable q] (h : p ↔ q) : decide p = decide q := by
  by_cases hq : q
  · rw [decide_eq_true hq, decide_eq_true (h.2 hq)]
  · rw [decide_eq_false hq, decide_eq_false fun hp => hq (h.1 hp)]
set_option maxHeartbeats 4000000 in
set_option maxRecDepth 100000 in
theorem differs_long (ha : AliveC) (a b : List UInt8) (A B : Option Addr) (ca cb : Nat) (l : List UInt8) (W : World) (h : 1000 < a.length ∨ 1000 < b.length) :
    Calls Try.prog 7 #[.slice A a.length ca, .slice B b.length cb, .agg (bA l)] W (Yes W) := by
  have HA := Lib.hid ha
  have HB0 : Hid (Below W.heap.size W (W.alloc (.cells (bA l) 43))) := (Below.refl _ _).alloc (Nat.le_refl _) _
  clear ha
  by_cases h1 : 1000 < a.length
  · have d1 : decide (1000 < a.length) = true := decide_eq_true h1
    have d2 : decide (1000 < (a.length : Int)) = true := decide_eq_true (by omega)
    clear h
    go_enter Try.func7, Try.ntmps7
    go_wp2_with fail
    refine (HA.out _).mono ?_
    rintro e w2 ⟨rfl, hb⟩
    have HB := Lib.hid (keeps HB0.out hb)
    clear hb
    go_wp2_with fail
    go_ret
    exact ⟨rfl, HB.out⟩
  · have d1 : decide (1000 < a.length) = false := decide_eq_false h1
    have d2 : decide (1000 < (a.length : Int)) = false := decide_eq_false (by omega)
    have h3 : 1000 < b.length := by omega
    have d3 : decide (1000 < b.length) = true := decide_eq_true h3
    have d4 : decide (1000 < (b.length : Int)) = true := decide_eq_true (by omega)
    clear h
    go_enter Try.func7, Try.ntmps7
    go_wp2_with fail
    refine (HA.out _).mono ?_
    rintro e w2 ⟨rfl, hb⟩
    have HB := Lib.hid (keeps HB0.out hb)
    clear hb
    go_wp2_with fail
    go_ret
    exact ⟨rfl, HB.out⟩
set_option maxHeartbeats 16000000 in
set_option maxRecDepth 100000 in
theorem differs_short (hp : Pre) (ha : AliveC) (a b : List UInt8) (A B : Option Addr) (ca cb : Nat) (k d k2 d2 : List UInt8) (hk : k.length = 32) (hd : d.length = 32) (hk2 : k2.length = 32) (hd2 : d2.length = 32) (W : World)
    (hA : BA W A a) (hB : BA W B b) (hca : a.length ≤ ca) (hcb : b.length ≤ cb) (ha0 : a.length ≤ 1000) (hb00 : b.length ≤ 1000) :
    Calls Try.prog 7 #[.slice A a.length ca, .slice B b.length cb, .agg (bA (k ++ (d ++ (k2 ++ d2))))] W (Yes W) := by
  have q1 : decide (1000 < a.length) = false := decide_eq_false (by omega)
  have q2 : decide (1000 < (a.length : Int)) = false := decide_eq_false (by omega)
  have q3 : decide (1000 < b.length) = false := decide_eq_false (by omega)
  have q4 : decide (1000 < (b.length : Int)) = false := decide_eq_false (by omega)
  obtain ⟨Q, hQ⟩ : ∃ Q, Q = decide (a = b) := ⟨_, rfl⟩
  obtain ⟨R, hR⟩ : ∃ R, R = decide (k ++ d = k2 ++ d2) := ⟨_, rfl⟩
  have HQ : Hid (decide (a = b) = Q) := hQ.symm
  have HQ1 : Hid (decide (valL a = valL b) = Q) := by show _ = _; rw [hQ]; exact decide_iff val_inj
  have HR1 : Hid (decide (leafL k d = leafL k2 d2) = R) := by show _ = _; rw [hR]; exact decide_iff leaf_inj
  have HQ3 : Hid (decide (leafL k d = nodeL d d2) = false) := decide_eq_false (leaf_node _ _ _ _)
  have HQ4 : Hid (decide (leafL k d = valL a) = false) := decide_eq_false (leaf_val _ _ _)
  have HQ5 : Hid (decide (nodeL d d2 = valL a) = false) := decide_eq_false (node_val _ _ _)
  have HQ6 : Hid (decide (valL a = emptyL) = false) := decide_eq_false (val_empty _)
  have el : ∀ x y w, eqA .eql 26 x y w (.agg (bA (k ++ d))) (.agg (bA (k2 ++ d2))) = .ok (.value (.bool R)) w := fun x y w => by rw [eqLeaf _ _ (by rw [List.length_append, hk, hd]) (by rw [List.length_append, hk2, hd2]), hR]
  have HEL := Lib.hid el
  have HP := Lib.hid hp
  have HA := Lib.hid ha
  have HK := Lib.hid hk
  have HD := Lib.hid hd
  have HK2 := Lib.hid hk2
  have HD2 := Lib.hid hd2
  have HBA := Lib.hid hA
  have HBB := Lib.hid hB
  obtain ⟨X, hX⟩ : ∃ X, X = W.alloc (.cells (bA (k ++ (d ++ (k2 ++ d2)))) 43) := ⟨_, rfl⟩
  have HX := Lib.hid hX
  have hb : Below W.heap.size W X := by rw [hX]; exact (Below.refl _ _).alloc (Nat.le_refl _) _
  have l0 : RowB X W.heap.size 43 (k ++ (d ++ (k2 ++ d2))) := by rw [hX]; exact heap_alloc_last W _
  have c0 : ((k ++ (d ++ (k2 ++ d2))).drop 0).take 64 = k ++ d := by
    have := cut_mid [] (k ++ d) (k2 ++ d2)
    rwa [List.length_append, hk, hd, List.nil_append, List.append_assoc] at this
  have c64 : ((k ++ (d ++ (k2 ++ d2))).drop 64).take 64 = k2 ++ d2 := by
    have := cut_mid (k ++ d) (k2 ++ d2) []
    rwa [List.length_append, List.length_append, hk, hd, hk2, hd2, List.append_nil, List.append_assoc] at this
  have c32 : ((k ++ (d ++ (k2 ++ d2))).drop 32).take 32 = d := by
    have := cut_mid k d (k2 ++ d2)
    rwa [hk, hd] at this
  have c96 : ((k ++ (d ++ (k2 ++ d2))).drop 96).take 32 = d2 := by
    have := cut_mid (k ++ (d ++ k2)) d2 []
    rwa [List.length_append, List.length_append, hk, hd, hk2, hd2, List.append_nil, List.append_assoc, List.append_assoc] at this
  have LA : Hid (∀ w', Below X.heap.size X w' → ldA 26 w' (.pointer (some ⟨W.heap.size, 0, none⟩)) = .ok (.value (.agg (bA (k ++ d)))) w') := fun w' h => (l0.below h).leafAt 0 c0 (by rw [List.length_append, hk, hd])
  have LB : Hid (∀ w', Below X.heap.size X w' → ldA 26 w' (.pointer (some ⟨W.heap.size, 64, none⟩)) = .ok (.value (.agg (bA (k2 ++ d2)))) w') := fun w' h => (l0.below h).leafAt 64 c64 (by rw [List.length_append, hk2, hd2])
  have LC : Hid (∀ w', Below X.heap.size X w' → ldA 24 w' (.pointer (some ⟨W.heap.size, 32, none⟩)) = .ok (.value (.agg (bA d))) w') := fun w' h => (l0.below h).digAt 32 c32 hd
  have LE : Hid (∀ w', Below X.heap.size X w' → ldA 24 w' (.pointer (some ⟨W.heap.size, 96, none⟩)) = .ok (.value (.agg (bA d2))) w') := fun w' h => (l0.below h).digAt 96 c96 hd2
  have HBX0 := Lib.hid hb
  clear hp ha hk hd hk2 hd2 hA hB hX hb l0 c0 c64 c32 c96 hQ hR el
  go_enter Try.func7, Try.ntmps7
  go_wp2_with fail
  rw [← HX.out]
  clear HX
  refine wp_region_held_drew (S := fun w' => Below X.heap.size X w') (by kernel_rfl) (Below.refl _ _).drew (fun hHeld => ?_)
  have hb0 : Below X.heap.size X X.drew := (Below.refl _ _).drew
  refine wpAnyH_take (i := 0) (oi := { dst := some 20, op := .indexAddr _ (.tmp 5) (.const (.int .i64 0)), type := _, pos := _, after := _, guard := _ }) (v := ?_) rfl (by kernel_rfl) (by kernel_rfl) (by kernel_rfl) (fun _ _ _ h => h) (Or.inl ⟨by rfl, ?_⟩) (by assumption) ?_
  rotate_left 1
  · intro v hSv
    clear hSv
    go_simp
    try with_reducible rfl
  try simp only [Act.put, List.setIfInBounds_toArray, List.set_cons_zero, List.set_cons_succ]
  refine wpAnyH_take (i := 1) (oi := { dst := some 21, op := .load _ (.tmp 20), type := _, pos := _, after := _, guard := _ }) (v := ?_) rfl (by kernel_rfl) (by kernel_rfl) (by kernel_rfl) (fun _ _ _ h => h) (Or.inl ⟨by rfl, ?_⟩) (by assumption) ?_
  rotate_left 1
  · intro v hSv
    have hv1 := LA.out v hSv
    clear hSv
    go_simp
    try with_reducible rfl
  try simp only [Act.put, List.setIfInBounds_toArray, List.set_cons_zero, List.set_cons_succ]
  refine wpAnyH_take (i := 3) (oi := { dst := some 23, op := .indexAddr _ (.tmp 5) (.const (.int .i64 1)), type := _, pos := _, after := _, guard := _ }) (v := ?_) rfl (by kernel_rfl) (by kernel_rfl) (by kernel_rfl) (fun _ _ _ h => h) (Or.inl ⟨by rfl, ?_⟩) (by assumption) ?_
  rotate_left 1
  · intro v hSv
    clear hSv
    go_simp
    try with_reducible rfl
  try simp only [Act.put, List.setIfInBounds_toArray, List.set_cons_zero, List.set_cons_succ]
  refine wpAnyH_take (i := 4) (oi := { dst := some 24, op := .load _ (.tmp 23), type := _, pos := _, after := _, guard := _ }) (v := ?_) rfl (by kernel_rfl) (by kernel_rfl) (by kernel_rfl) (fun _ _ _ h => h) (Or.inl ⟨by rfl, ?_⟩) (by assumption) ?_
  rotate_left 1
  · intro v hSv
    have hv1 := LB.out v hSv
    clear hSv
    go_simp
    try with_reducible rfl
  try simp only [Act.put, List.setIfInBounds_toArray, List.set_cons_zero, List.set_cons_succ]
  refine wpAnyH_ready (rs := [2]) (by kernel_rfl) (by simp) ?_
  refine AllReadyH.cons (o := { dst := some 22, op := .call _, type := _, pos := _, after := _, guard := _ }) rfl (fun K hK => ?_) AllReadyH.nil
  go_simp
  refine (HP.out.leaf k d _ HK.out HD.out).mono ?_
  rintro e y1 ⟨A1, c1, rfl, hn1, hc1, hA1, hb⟩
  have hb1 : Below X.heap.size X y1 := keeps (hb0) hb
  have HA1 := Lib.hid hA1
  have HN1 := Lib.hid hn1
  have HC1 := Lib.hid hc1
  clear hA1 hn1 hc1
  clear hb
  go_wp2_with fail
  refine hK.out _ _ (hb1) (fun hHeld => ?_)
  clear hK K
  try simp only [Act.put, List.setIfInBounds_toArray, List.set_cons_zero, List.set_cons_succ]
  refine wpAnyH_ready (rs := [5]) (by kernel_rfl) (by simp) ?_
  refine AllReadyH.cons (o := { dst := some 25, op := .call _, type := _, pos := _, after := _, guard := _ }) rfl (fun K hK => ?_) AllReadyH.nil
  go_simp
  refine (HP.out.leaf k2 d2 _ HK2.out HD2.out).mono ?_
  rintro e y2 ⟨A2, c2, rfl, hn2, hc2, hA2, hb⟩
  have hb2 : Below X.heap.size X y2 := keeps (hb1) hb
  have HA2 := Lib.hid hA2
  have HN2 := Lib.hid hn2
  have HC2 := Lib.hid hc2
  have HA1 := Lib.hid (HA1.out.below hb)
  clear hA2 hn2 hc2
  clear hb
  go_wp2_with fail
  refine hK.out _ _ (hb2) (fun hHeld => ?_)
  clear hK K
  try simp only [Act.put, List.setIfInBounds_toArray, List.set_cons_zero, List.set_cons_succ]
  refine wpAnyH_take (i := 6) (oi := { dst := some 7, op := .assign (.tmp 22), type := _, pos := _, after := _, guard := _ }) (v := ?_) rfl (by kernel_rfl) (by kernel_rfl) (by kernel_rfl) (fun _ _ _ h => h) (Or.inl ⟨by rfl, ?_⟩) (by assumption) ?_
  rotate_left 1
  · intro v hSv
    clear hSv
    go_simp
    try with_reducible rfl
  try simp only [Act.put, List.setIfInBounds_toArray, List.set_cons_zero, List.set_cons_succ]
  refine wpAnyH_take (i := 7) (oi := { dst := some 8, op := .assign (.tmp 25), type := _, pos := _, after := _, guard := _ }) (v := ?_) rfl (by kernel_rfl) (by kernel_rfl) (by kernel_rfl) (fun _ _ _ h => h) (Or.inl ⟨by rfl, ?_⟩) (by assumption) ?_
  rotate_left 1
  · intro v hSv
    clear hSv
    go_simp
    try with_reducible rfl
  try simp only [Act.put, List.setIfInBounds_toArray, List.set_cons_zero, List.set_cons_succ]
  refine wpAnyH_done (by kernel_rfl) ?_ _
  have lc := LC.out _ hb2
  have le := LE.out _ hb2
  go_wp2_with fail
  clear lc le
  refine (HP.out.node d d2 y2 HD.out HD2.out).mono ?_
  rintro e y3 ⟨A3, c3, rfl, hn3, hc3, hA3, hb⟩
  have hb3 : Below X.heap.size X y3 := keeps hb2 hb
  have HA1 := Lib.hid (HA1.out.below hb)
  have HA2 := Lib.hid (HA2.out.below hb)
  have HA3 := Lib.hid hA3
  have HN3 := Lib.hid hn3
  clear hb hA3 hn3 hc3
  go_wp2_with fail
  refine (HP.out.val A ca a y3 (HBA.out.below (keeps HBX0.out hb3)) hca ha0).mono ?_
  rintro e X5 ⟨A4, c4, rfl, hn4, hc4, hA4, hb⟩
  have hb4 : Below X.heap.size X X5 := keeps hb3 hb
  have BX : Hid (∀ w', Below X5.heap.size X5 w' → BA w' A1 (leafL k d)) := fun w' h => (HA1.out.below hb).below h
  have BY : Hid (∀ w', Below X5.heap.size X5 w' → BA w' A2 (leafL k2 d2)) := fun w' h => (HA2.out.below hb).below h
  have BN : Hid (∀ w', Below X5.heap.size X5 w' → BA w' A3 (nodeL d d2)) := fun w' h => (HA3.out.below hb).below h
  have BV : Hid (∀ w', Below X5.heap.size X5 w' → BA w' A4 (valL a)) := fun w' h => hA4.below h
  have HN4 := Lib.hid hn4
  have HBX : Hid (∀ w', Below X5.heap.size X5 w' → Below W.heap.size W w') := fun w' h => keeps (keeps HBX0.out hb4) h
  have BAa : Hid (∀ w', Below X5.heap.size X5 w' → BA w' A a) := fun w' h => HBA.out.below (HBX.out w' h)
  have BAb : Hid (∀ w', Below X5.heap.size X5 w' → BA w' B b) := fun w' h => HBB.out.below (HBX.out w' h)
  have LA : Hid (∀ w', Below X5.heap.size X5 w' → ldA 26 w' (.pointer (some ⟨W.heap.size, 0, none⟩)) = .ok (.value (.agg (bA (k ++ d)))) w') := fun w' h => LA.out w' (keeps hb4 h)
  have LB : Hid (∀ w', Below X5.heap.size X5 w' → ldA 26 w' (.pointer (some ⟨W.heap.size, 64, none⟩)) = .ok (.value (.agg (bA (k2 ++ d2)))) w') := fun w' h => LB.out w' (keeps hb4 h)
  clear hb hA4 hn4 hc4 hb1 hb2 hb3 hb4 hb0 HA1 HA2 HA3 HC1 HC2 LC LE HBX0
  go_wp2_with fail
  have el := HEL.out
  refine wp_region_held_drew (S := fun w' => Below X5.heap.size X5 w') (by kernel_rfl) (Below.refl _ _).drew (fun hHeld => ?_)
  have hb0 : Below X5.heap.size X5 X5.drew := (Below.refl _ _).drew
  refine wpAnyH_ready (rs := [0]) (by kernel_rfl) (by simp) ?_
  refine AllReadyH.cons (o := { dst := some 35, op := .call _, type := _, pos := _, after := _, guard := _ }) rfl (fun K hK => ?_) AllReadyH.nil
  go_simp
  refine (HA.out _).mono ?_
  rintro e y11 ⟨rfl, hb⟩
  have hb11 : Below X5.heap.size X5 y11 := keeps (hb0) hb
  clear hb
  go_wp2_with fail
  refine hK.out _ _ (hb11) (fun hHeld => ?_)
  clear hK K
  try simp only [Act.put, List.setIfInBounds_toArray, List.set_cons_zero, List.set_cons_succ]
  refine wpAnyH_take (i := 1) (oi := { dst := some 36, op := .move (.tmp 35), type := _, pos := _, after := _, guard := _ }) (v := ?_) rfl (by kernel_rfl) (by kernel_rfl) (by kernel_rfl) (fun _ _ _ h => h) (Or.inl ⟨by rfl, ?_⟩) (by assumption) ?_
  rotate_left 1
  · intro v hSv
    clear hSv
    go_simp
    try with_reducible rfl
  try simp only [Act.put, List.setIfInBounds_toArray, List.set_cons_zero, List.set_cons_succ]
  refine wpAnyH_take (i := 2) (oi := { dst := some 37, op := .move (.tmp 0), type := _, pos := _, after := _, guard := _ }) (v := ?_) rfl (by kernel_rfl) (by kernel_rfl) (by kernel_rfl) (fun _ _ _ h => h) (Or.inl ⟨by rfl, ?_⟩) (by assumption) ?_
  rotate_left 1
  · intro v hSv
    clear hSv
    go_simp
    try with_reducible rfl
  try simp only [Act.put, List.setIfInBounds_toArray, List.set_cons_zero, List.set_cons_succ]
  refine wpAnyH_take (i := 4) (oi := { dst := some 39, op := .move (.tmp 1), type := _, pos := _, after := _, guard := _ }) (v := ?_) rfl (by kernel_rfl) (by kernel_rfl) (by kernel_rfl) (fun _ _ _ h => h) (Or.inl ⟨by rfl, ?_⟩) (by assumption) ?_
  rotate_left 1
  · intro v hSv
    clear hSv
    go_simp
    try with_reducible rfl
  try simp only [Act.put, List.setIfInBounds_toArray, List.set_cons_zero, List.set_cons_succ]
  refine wpAnyH_take (i := 7) (oi := { dst := some 42, op := .move (.tmp 0), type := _, pos := _, after := _, guard := _ }) (v := ?_) rfl (by kernel_rfl) (by kernel_rfl) (by kernel_rfl) (fun _ _ _ h => h) (Or.inl ⟨by rfl, ?_⟩) (by assumption) ?_
  rotate_left 1
  · intro v hSv
    clear hSv
    go_simp
    try with_reducible rfl
  try simp only [Act.put, List.setIfInBounds_toArray, List.set_cons_zero, List.set_cons_succ]
  refine wpAnyH_take (i := 8) (oi := { dst := some 43, op := .move (.tmp 1), type := _, pos := _, after := _, guard := _ }) (v := ?_) rfl (by kernel_rfl) (by kernel_rfl) (by kernel_rfl) (fun _ _ _ h => h) (Or.inl ⟨by rfl, ?_⟩) (by assumption) ?_
  rotate_left 1
  · intro v hSv
    clear hSv
    go_simp
    try with_reducible rfl
  try simp only [Act.put, List.setIfInBounds_toArray, List.set_cons_zero, List.set_cons_succ]
  refine wpAnyH_ready (rs := [3]) (by kernel_rfl) (by simp) ?_
  refine AllReadyH.cons (o := { dst := some 38, op := .call _, type := _, pos := _, after := _, guard := _ }) rfl (fun K hK => ?_) AllReadyH.nil
  go_simp
  refine (HP.out.val A ca a _ (BAa.out _ (hb11)) hca ha0).mono ?_
  rintro e y12 ⟨A12, c12, rfl, hn12, hc12, hA12, hb⟩
  have hb12 : Below X5.heap.size X5 y12 := keeps (hb11) hb
  have HA12 := Lib.hid hA12
  have HN12 := Lib.hid hn12
  have HC12 := Lib.hid hc12
  clear hA12 hn12 hc12
  clear hb
  go_wp2_with fail
  refine hK.out _ _ (hb12) (fun hHeld => ?_)
  clear hK K
  try simp only [Act.put, List.setIfInBounds_toArray, List.set_cons_zero, List.set_cons_succ]
  refine wpAnyH_ready (rs := [5]) (by kernel_rfl) (by simp) ?_
  refine AllReadyH.cons (o := { dst := some 40, op := .call _, type := _, pos := _, after := _, guard := _ }) rfl (fun K hK => ?_) AllReadyH.nil
  go_simp
  refine (HP.out.val B cb b _ (BAb.out _ (hb12)) hcb hb00).mono ?_
  rintro e y13 ⟨A13, c13, rfl, hn13, hc13, hA13, hb⟩
  have hb13 : Below X5.heap.size X5 y13 := keeps (hb12) hb
  have HA13 := Lib.hid hA13
  have HN13 := Lib.hid hn13
  have HC13 := Lib.hid hc13
  have HA12 := Lib.hid (HA12.out.below hb)
  clear hA13 hn13 hc13
  clear hb
  go_wp2_with fail
  refine hK.out _ _ (hb13) (fun hHeld => ?_)
  clear hK K
  try simp only [Act.put, List.setIfInBounds_toArray, List.set_cons_zero, List.set_cons_succ]
  refine wpAnyH_ready (rs := [6]) (by kernel_rfl) (by simp) ?_
  refine AllReadyH.cons (o := { dst := some 41, op := .call _, type := _, pos := _, after := _, guard := _ }) rfl (fun K hK => ?_) AllReadyH.nil
  go_simp
  refine (same_n A12 A13 c12 c13 (a.length + 1) (b.length + 1) (valL a) (valL b) Q _ HN12.out HN13.out HQ1.out HA12.out HA13.out (by omega) (by omega)).mono ?_
  rintro e y14 ⟨rfl, hb⟩
  have hb14 : Below X5.heap.size X5 y14 := keeps (hb13) hb
  clear HA12 HA13 HN12 HN13 HC12 HC13
  clear hb
  go_wp2_with fail
  refine hK.out _ _ (hb14) (fun hHeld => ?_)
  clear hK K
  try simp only [Act.put, List.setIfInBounds_toArray, List.set_cons_zero, List.set_cons_succ]
  refine wpAnyH_ready (rs := [9]) (by kernel_rfl) (by simp) ?_
  refine AllReadyH.cons (o := { dst := some 44, op := .call _, type := _, pos := _, after := _, guard := _ }) rfl (fun K hK => ?_) AllReadyH.nil
  go_simp
  refine (same_n A B ca cb a.length b.length (a) (b) Q _ rfl rfl HQ.out (BAa.out _ (hb14)) (BAb.out _ (hb14)) (by omega) (by omega)).mono ?_
  rintro e y15 ⟨rfl, hb⟩
  have hb15 : Below X5.heap.size X5 y15 := keeps (hb14) hb
  clear hb
  go_wp2_with fail
  refine hK.out _ _ (hb15) (fun hHeld => ?_)
  clear hK K
  try simp only [Act.put, List.setIfInBounds_toArray, List.set_cons_zero, List.set_cons_succ]
  refine wpAnyH_take (i := 10) (oi := { dst := some 45, op := .binOp .eql _ (.tmp 41) (.tmp 44) _, type := _, pos := _, after := _, guard := _ }) (v := ?_) rfl (by kernel_rfl) (by kernel_rfl) (by kernel_rfl) (fun _ _ _ h => h) (Or.inl ⟨by rfl, ?_⟩) (by assumption) ?_
  rotate_left 1
  · intro v hSv
    clear hSv
    go_simp
    try with_reducible rfl
  try simp only [Act.put, List.setIfInBounds_toArray, List.set_cons_zero, List.set_cons_succ]
  refine wpAnyH_take (i := 11) (oi := { dst := some 46, op := .pick (.tmp 36) (.tmp 45) (.const (.bool false)), type := _, pos := _, after := _, guard := _ }) (v := ?_) rfl (by kernel_rfl) (by kernel_rfl) (by kernel_rfl) (fun _ _ _ h => h) (Or.inl ⟨by rfl, ?_⟩) (by assumption) ?_
  rotate_left 1
  · intro v hSv
    clear hSv
    go_simp
    try with_reducible rfl
  try simp only [Act.put, List.setIfInBounds_toArray, List.set_cons_zero, List.set_cons_succ]
  refine wpAnyH_take (i := 12) (oi := { dst := some 47, op := .move (.tmp 46), type := _, pos := _, after := _, guard := _ }) (v := ?_) rfl (by kernel_rfl) (by kernel_rfl) (by kernel_rfl) (fun _ _ _ h => h) (Or.inl ⟨by rfl, ?_⟩) (by assumption) ?_
  rotate_left 1
  · intro v hSv
    clear hSv
    go_simp
    try with_reducible rfl
  try simp only [Act.put, List.setIfInBounds_toArray, List.set_cons_zero, List.set_cons_succ]
  refine wpAnyH_take (i := 13) (oi := { dst := some 48, op := .move (.tmp 7), type := _, pos := _, after := _, guard := _ }) (v := ?_) rfl (by kernel_rfl) (by kernel_rfl) (by kernel_rfl) (fun _ _ _ h => h) (Or.inl ⟨by rfl, ?_⟩) (by assumption) ?_
  rotate_left 1
  · intro v hSv
    clear hSv
    go_simp
    try with_reducible rfl
  try simp only [Act.put, List.setIfInBounds_toArray, List.set_cons_zero, List.set_cons_succ]
  refine wpAnyH_take (i := 14) (oi := { dst := some 49, op := .move (.tmp 8), type := _, pos := _, after := _, guard := _ }) (v := ?_) rfl (by kernel_rfl) (by kernel_rfl) (by kernel_rfl) (fun _ _ _ h => h) (Or.inl ⟨by rfl, ?_⟩) (by assumption) ?_
  rotate_left 1
  · intro v hSv
    clear hSv
    go_simp
    try with_reducible rfl
  try simp only [Act.put, List.setIfInBounds_toArray, List.set_cons_zero, List.set_cons_succ]
  refine wpAnyH_take (i := 16) (oi := { dst := some 51, op := .indexAddr _ (.tmp 5) (.const (.int .i64 0)), type := _, pos := _, after := _, guard := _ }) (v := ?_) rfl (by kernel_rfl) (by kernel_rfl) (by kernel_rfl) (fun _ _ _ h => h) (Or.inl ⟨by rfl, ?_⟩) (by assumption) ?_
  rotate_left 1
  · intro v hSv
    clear hSv
    go_simp
    try with_reducible rfl
  try simp only [Act.put, List.setIfInBounds_toArray, List.set_cons_zero, List.set_cons_succ]
  refine wpAnyH_take (i := 17) (oi := { dst := some 52, op := .load _ (.tmp 51), type := _, pos := _, after := _, guard := _ }) (v := ?_) rfl (by kernel_rfl) (by kernel_rfl) (by kernel_rfl) (fun _ _ _ h => h) (Or.inl ⟨by rfl, ?_⟩) (by assumption) ?_
  rotate_left 1
  · intro v hSv
    have hv1 := LA.out v hSv
    clear hSv
    go_simp
    try with_reducible rfl
  try simp only [Act.put, List.setIfInBounds_toArray, List.set_cons_zero, List.set_cons_succ]
  refine wpAnyH_take (i := 18) (oi := { dst := some 53, op := .indexAddr _ (.tmp 5) (.const (.int .i64 1)), type := _, pos := _, after := _, guard := _ }) (v := ?_) rfl (by kernel_rfl) (by kernel_rfl) (by kernel_rfl) (fun _ _ _ h => h) (Or.inl ⟨by rfl, ?_⟩) (by assumption) ?_
  rotate_left 1
  · intro v hSv
    clear hSv
    go_simp
    try with_reducible rfl
  try simp only [Act.put, List.setIfInBounds_toArray, List.set_cons_zero, List.set_cons_succ]
  refine wpAnyH_take (i := 19) (oi := { dst := some 54, op := .load _ (.tmp 53), type := _, pos := _, after := _, guard := _ }) (v := ?_) rfl (by kernel_rfl) (by kernel_rfl) (by kernel_rfl) (fun _ _ _ h => h) (Or.inl ⟨by rfl, ?_⟩) (by assumption) ?_
  rotate_left 1
  · intro v hSv
    have hv1 := LB.out v hSv
    clear hSv
    go_simp
    try with_reducible rfl
  try simp only [Act.put, List.setIfInBounds_toArray, List.set_cons_zero, List.set_cons_succ]
  refine wpAnyH_take (i := 20) (oi := { dst := some 55, op := .binOp .eql _ (.tmp 52) (.tmp 54) _, type := _, pos := _, after := _, guard := _ }) (v := ?_) rfl (by kernel_rfl) (by kernel_rfl) (by kernel_rfl) (fun _ _ _ h => h) (Or.inl ⟨by rfl, ?_⟩) (by assumption) ?_
  rotate_left 1
  · intro v hSv
    clear hSv
    go_simp
    try with_reducible rfl
  try simp only [Act.put, List.setIfInBounds_toArray, List.set_cons_zero, List.set_cons_succ]
  refine wpAnyH_ready (rs := [15]) (by kernel_rfl) (by simp) ?_
  refine AllReadyH.cons (o := { dst := some 50, op := .call _, type := _, pos := _, after := _, guard := _ }) rfl (fun K hK => ?_) AllReadyH.nil
  go_simp
  refine (same_n A1 A2 c1 c2 65 65 (leafL k d) (leafL k2 d2) R _ HN1.out HN2.out HR1.out (BX.out _ (hb15)) (BY.out _ (hb15)) (by omega) (by omega)).mono ?_
  rintro e y16 ⟨rfl, hb⟩
  have hb16 : Below X5.heap.size X5 y16 := keeps (hb15) hb
  clear hb
  go_wp2_with fail
  refine hK.out _ _ (hb16) (fun hHeld => ?_)
  clear hK K
  try simp only [Act.put, List.setIfInBounds_toArray, List.set_cons_zero, List.set_cons_succ]
  refine wpAnyH_take (i := 21) (oi := { dst := some 56, op := .binOp .eql _ (.tmp 50) (.tmp 55) _, type := _, pos := _, after := _, guard := _ }) (v := ?_) rfl (by kernel_rfl) (by kernel_rfl) (by kernel_rfl) (fun _ _ _ h => h) (Or.inl ⟨by rfl, ?_⟩) (by assumption) ?_
  rotate_left 1
  · intro v hSv
    clear hSv
    go_simp
    try with_reducible rfl
  try simp only [Act.put, List.setIfInBounds_toArray, List.set_cons_zero, List.set_cons_succ]
  refine wpAnyH_take (i := 22) (oi := { dst := some 57, op := .pick (.tmp 47) (.tmp 56) (.const (.bool false)), type := _, pos := _, after := _, guard := _ }) (v := ?_) rfl (by kernel_rfl) (by kernel_rfl) (by kernel_rfl) (fun _ _ _ h => h) (Or.inl ⟨by rfl, ?_⟩) (by assumption) ?_
  rotate_left 1
  · intro v hSv
    clear hSv
    go_simp
    try with_reducible rfl
  try simp only [Act.put, List.setIfInBounds_toArray, List.set_cons_zero, List.set_cons_succ]
  refine wpAnyH_take (i := 23) (oi := { dst := some 58, op := .move (.tmp 57), type := _, pos := _, after := _, guard := _ }) (v := ?_) rfl (by kernel_rfl) (by kernel_rfl) (by kernel_rfl) (fun _ _ _ h => h) (Or.inl ⟨by rfl, ?_⟩) (by assumption) ?_
  rotate_left 1
  · intro v hSv
    clear hSv
    go_simp
    try with_reducible rfl
  try simp only [Act.put, List.setIfInBounds_toArray, List.set_cons_zero, List.set_cons_succ]
  refine wpAnyH_take (i := 24) (oi := { dst := some 59, op := .move (.tmp 7), type := _, pos := _, after := _, guard := _ }) (v := ?_) rfl (by kernel_rfl) (by kernel_rfl) (by kernel_rfl) (fun _ _ _ h => h) (Or.inl ⟨by rfl, ?_⟩) (by assumption) ?_
  rotate_left 1
  · intro v hSv
    clear hSv
    go_simp
    try with_reducible rfl
  try simp only [Act.put, List.setIfInBounds_toArray, List.set_cons_zero, List.set_cons_succ]
  refine wpAnyH_take (i := 25) (oi := { dst := some 60, op := .move (.tmp 9), type := _, pos := _, after := _, guard := _ }) (v := ?_) rfl (by kernel_rfl) (by kernel_rfl) (by kernel_rfl) (fun _ _ _ h => h) (Or.inl ⟨by rfl, ?_⟩) (by assumption) ?_
  rotate_left 1
  · intro v hSv
    clear hSv
    go_simp
    try with_reducible rfl
  try simp only [Act.put, List.setIfInBounds_toArray, List.set_cons_zero, List.set_cons_succ]
  refine wpAnyH_ready (rs := [26]) (by kernel_rfl) (by simp) ?_
  refine AllReadyH.cons (o := { dst := some 61, op := .call _, type := _, pos := _, after := _, guard := _ }) rfl (fun K hK => ?_) AllReadyH.nil
  go_simp
  refine (same_n A1 A3 c1 c3 65 65 (leafL k d) (nodeL d d2) false _ HN1.out HN3.out HQ3.out (BX.out _ (hb16)) (BN.out _ (hb16)) (by omega) (by omega)).mono ?_
  rintro e y17 ⟨rfl, hb⟩
  have hb17 : Below X5.heap.size X5 y17 := keeps (hb16) hb
  clear hb
  go_wp2_with fail
  refine hK.out _ _ (hb17) (fun hHeld => ?_)
  clear hK K
  try simp only [Act.put, List.setIfInBounds_toArray, List.set_cons_zero, List.set_cons_succ]
  refine wpAnyH_take (i := 27) (oi := { dst := some 62, op := .unOp .not _ (.tmp 61), type := _, pos := _, after := _, guard := _ }) (v := ?_) rfl (by kernel_rfl) (by kernel_rfl) (by kernel_rfl) (fun _ _ _ h => h) (Or.inl ⟨by rfl, ?_⟩) (by assumption) ?_
  rotate_left 1
  · intro v hSv
    clear hSv
    go_simp
    try with_reducible rfl
  try simp only [Act.put, List.setIfInBounds_toArray, List.set_cons_zero, List.set_cons_succ]
  refine wpAnyH_take (i := 28) (oi := { dst := some 63, op := .pick (.tmp 58) (.tmp 62) (.const (.bool false)), type := _, pos := _, after := _, guard := _ }) (v := ?_) rfl (by kernel_rfl) (by kernel_rfl) (by kernel_rfl) (fun _ _ _ h => h) (Or.inl ⟨by rfl, ?_⟩) (by assumption) ?_
  rotate_left 1
  · intro v hSv
    clear hSv
    go_simp
    try with_reducible rfl
  try simp only [Act.put, List.setIfInBounds_toArray, List.set_cons_zero, List.set_cons_succ]
  refine wpAnyH_take (i := 29) (oi := { dst := some 64, op := .move (.tmp 63), type := _, pos := _, after := _, guard := _ }) (v := ?_) rfl (by kernel_rfl) (by kernel_rfl) (by kernel_rfl) (fun _ _ _ h => h) (Or.inl ⟨by rfl, ?_⟩) (by assumption) ?_
  rotate_left 1
  · intro v hSv
    clear hSv
    go_simp
    try with_reducible rfl
  try simp only [Act.put, List.setIfInBounds_toArray, List.set_cons_zero, List.set_cons_succ]
  refine wpAnyH_take (i := 30) (oi := { dst := some 65, op := .move (.tmp 7), type := _, pos := _, after := _, guard := _ }) (v := ?_) rfl (by kernel_rfl) (by kernel_rfl) (by kernel_rfl) (fun _ _ _ h => h) (Or.inl ⟨by rfl, ?_⟩) (by assumption) ?_
  rotate_left 1
  · intro v hSv
    clear hSv
    go_simp
    try with_reducible rfl
  try simp only [Act.put, List.setIfInBounds_toArray, List.set_cons_zero, List.set_cons_succ]
  refine wpAnyH_take (i := 31) (oi := { dst := some 66, op := .move (.tmp 10), type := _, pos := _, after := _, guard := _ }) (v := ?_) rfl (by kernel_rfl) (by kernel_rfl) (by kernel_rfl) (fun _ _ _ h => h) (Or.inl ⟨by rfl, ?_⟩) (by assumption) ?_
  rotate_left 1
  · intro v hSv
    clear hSv
    go_simp
    try with_reducible rfl
  try simp only [Act.put, List.setIfInBounds_toArray, List.set_cons_zero, List.set_cons_succ]
  refine wpAnyH_ready (rs := [32]) (by kernel_rfl) (by simp) ?_
  refine AllReadyH.cons (o := { dst := some 67, op := .call _, type := _, pos := _, after := _, guard := _ }) rfl (fun K hK => ?_) AllReadyH.nil
  go_simp
  refine (same_n A1 A4 c1 c4 65 (a.length + 1) (leafL k d) (valL a) false _ HN1.out HN4.out HQ4.out (BX.out _ (hb17)) (BV.out _ (hb17)) (by omega) (by omega)).mono ?_
  rintro e y18 ⟨rfl, hb⟩
  have hb18 : Below X5.heap.size X5 y18 := keeps (hb17) hb
  clear hb
  go_wp2_with fail
  refine hK.out _ _ (hb18) (fun hHeld => ?_)
  clear hK K
  try simp only [Act.put, List.setIfInBounds_toArray, List.set_cons_zero, List.set_cons_succ]
  refine wpAnyH_take (i := 33) (oi := { dst := some 68, op := .unOp .not _ (.tmp 67), type := _, pos := _, after := _, guard := _ }) (v := ?_) rfl (by kernel_rfl) (by kernel_rfl) (by kernel_rfl) (fun _ _ _ h => h) (Or.inl ⟨by rfl, ?_⟩) (by assumption) ?_
  rotate_left 1
  · intro v hSv
    clear hSv
    go_simp
    try with_reducible rfl
  try simp only [Act.put, List.setIfInBounds_toArray, List.set_cons_zero, List.set_cons_succ]
  refine wpAnyH_take (i := 34) (oi := { dst := some 69, op := .pick (.tmp 64) (.tmp 68) (.const (.bool false)), type := _, pos := _, after := _, guard := _ }) (v := ?_) rfl (by kernel_rfl) (by kernel_rfl) (by kernel_rfl) (fun _ _ _ h => h) (Or.inl ⟨by rfl, ?_⟩) (by assumption) ?_
  rotate_left 1
  · intro v hSv
    clear hSv
    go_simp
    try with_reducible rfl
  try simp only [Act.put, List.setIfInBounds_toArray, List.set_cons_zero, List.set_cons_succ]
  refine wpAnyH_take (i := 35) (oi := { dst := some 70, op := .move (.tmp 69), type := _, pos := _, after := _, guard := _ }) (v := ?_) rfl (by kernel_rfl) (by kernel_rfl) (by kernel_rfl) (fun _ _ _ h => h) (Or.inl ⟨by rfl, ?_⟩) (by assumption) ?_
  rotate_left 1
  · intro v hSv
    clear hSv
    go_simp
    try with_reducible rfl
  try simp only [Act.put, List.setIfInBounds_toArray, List.set_cons_zero, List.set_cons_succ]
  refine wpAnyH_take (i := 36) (oi := { dst := some 71, op := .move (.tmp 9), type := _, pos := _, after := _, guard := _ }) (v := ?_) rfl (by kernel_rfl) (by kernel_rfl) (by kernel_rfl) (fun _ _ _ h => h) (Or.inl ⟨by rfl, ?_⟩) (by assumption) ?_
  rotate_left 1
  · intro v hSv
    clear hSv
    go_simp
    try with_reducible rfl
  try simp only [Act.put, List.setIfInBounds_toArray, List.set_cons_zero, List.set_cons_succ]
  refine wpAnyH_take (i := 37) (oi := { dst := some 72, op := .move (.tmp 10), type := _, pos := _, after := _, guard := _ }) (v := ?_) rfl (by kernel_rfl) (by kernel_rfl) (by kernel_rfl) (fun _ _ _ h => h) (Or.inl ⟨by rfl, ?_⟩) (by assumption) ?_
  rotate_left 1
  · intro v hSv
    clear hSv
    go_simp
    try with_reducible rfl
  try simp only [Act.put, List.setIfInBounds_toArray, List.set_cons_zero, List.set_cons_succ]
  refine wpAnyH_ready (rs := [38]) (by kernel_rfl) (by simp) ?_
  refine AllReadyH.cons (o := { dst := some 73, op := .call _, type := _, pos := _, after := _, guard := _ }) rfl (fun K hK => ?_) AllReadyH.nil
  go_simp
  refine (same_n A3 A4 c3 c4 65 (a.length + 1) (nodeL d d2) (valL a) false _ HN3.out HN4.out HQ5.out (BN.out _ (hb18)) (BV.out _ (hb18)) (by omega) (by omega)).mono ?_
  rintro e y19 ⟨rfl, hb⟩
  have hb19 : Below X5.heap.size X5 y19 := keeps (hb18) hb
  clear hb
  go_wp2_with fail
  refine hK.out _ _ (hb19) (fun hHeld => ?_)
  clear hK K
  try simp only [Act.put, List.setIfInBounds_toArray, List.set_cons_zero, List.set_cons_succ]
  refine wpAnyH_take (i := 39) (oi := { dst := some 74, op := .unOp .not _ (.tmp 73), type := _, pos := _, after := _, guard := _ }) (v := ?_) rfl (by kernel_rfl) (by kernel_rfl) (by kernel_rfl) (fun _ _ _ h => h) (Or.inl ⟨by rfl, ?_⟩) (by assumption) ?_
  rotate_left 1
  · intro v hSv
    clear hSv
    go_simp
    try with_reducible rfl
  try simp only [Act.put, List.setIfInBounds_toArray, List.set_cons_zero, List.set_cons_succ]
  refine wpAnyH_take (i := 40) (oi := { dst := some 75, op := .pick (.tmp 70) (.tmp 74) (.const (.bool false)), type := _, pos := _, after := _, guard := _ }) (v := ?_) rfl (by kernel_rfl) (by kernel_rfl) (by kernel_rfl) (fun _ _ _ h => h) (Or.inl ⟨by rfl, ?_⟩) (by assumption) ?_
  rotate_left 1
  · intro v hSv
    clear hSv
    go_simp
    try with_reducible rfl
  try simp only [Act.put, List.setIfInBounds_toArray, List.set_cons_zero, List.set_cons_succ]
  refine wpAnyH_take (i := 41) (oi := { dst := some 76, op := .move (.tmp 75), type := _, pos := _, after := _, guard := _ }) (v := ?_) rfl (by kernel_rfl) (by kernel_rfl) (by kernel_rfl) (fun _ _ _ h => h) (Or.inl ⟨by rfl, ?_⟩) (by assumption) ?_
  rotate_left 1
  · intro v hSv
    clear hSv
    go_simp
    try with_reducible rfl
  try simp only [Act.put, List.setIfInBounds_toArray, List.set_cons_zero, List.set_cons_succ]
  refine wpAnyH_take (i := 42) (oi := { dst := some 77, op := .move (.tmp 10), type := _, pos := _, after := _, guard := _ }) (v := ?_) rfl (by kernel_rfl) (by kernel_rfl) (by kernel_rfl) (fun _ _ _ h => h) (Or.inl ⟨by rfl, ?_⟩) (by assumption) ?_
  rotate_left 1
  · intro v hSv
    clear hSv
    go_simp
    try with_reducible rfl
  try simp only [Act.put, List.setIfInBounds_toArray, List.set_cons_zero, List.set_cons_succ]
  refine wpAnyH_ready (rs := [43]) (by kernel_rfl) (by simp) ?_
  refine AllReadyH.cons (o := { dst := some 78, op := .call _, type := _, pos := _, after := _, guard := _ }) rfl (fun K hK => ?_) AllReadyH.nil
  go_simp
  refine (HP.out.empty _).mono ?_
  rintro e y20 ⟨A20, c20, rfl, hn20, hc20, hA20, hb⟩
  have hb20 : Below X5.heap.size X5 y20 := keeps (hb19) hb
  have HA20 := Lib.hid hA20
  have HN20 := Lib.hid hn20
  have HC20 := Lib.hid hc20
  clear hA20 hn20 hc20
  clear hb
  go_wp2_with fail
  refine hK.out _ _ (hb20) (fun hHeld => ?_)
  clear hK K
  try simp only [Act.put, List.setIfInBounds_toArray, List.set_cons_zero, List.set_cons_succ]
  refine wpAnyH_ready (rs := [44]) (by kernel_rfl) (by simp) ?_
  refine AllReadyH.cons (o := { dst := some 79, op := .call _, type := _, pos := _, after := _, guard := _ }) rfl (fun K hK => ?_) AllReadyH.nil
  go_simp
  refine (same_n A4 A20 c4 c20 (a.length + 1) 1 (valL a) emptyL false _ HN4.out HN20.out HQ6.out (BV.out _ (hb20)) HA20.out (by omega) (by omega)).mono ?_
  rintro e y21 ⟨rfl, hb⟩
  have hb21 : Below X5.heap.size X5 y21 := keeps (hb20) hb
  clear hb
  go_wp2_with fail
  refine hK.out _ _ (hb21) (fun hHeld => ?_)
  clear hK K
  try simp only [Act.put, List.setIfInBounds_toArray, List.set_cons_zero, List.set_cons_succ]
  refine wpAnyH_take (i := 45) (oi := { dst := some 80, op := .unOp .not _ (.tmp 79), type := _, pos := _, after := _, guard := _ }) (v := ?_) rfl (by kernel_rfl) (by kernel_rfl) (by kernel_rfl) (fun _ _ _ h => h) (Or.inl ⟨by rfl, ?_⟩) (by assumption) ?_
  rotate_left 1
  · intro v hSv
    clear hSv
    go_simp
    try with_reducible rfl
  try simp only [Act.put, List.setIfInBounds_toArray, List.set_cons_zero, List.set_cons_succ]
  refine wpAnyH_take (i := 46) (oi := { dst := some 81, op := .pick (.tmp 76) (.tmp 80) (.const (.bool false)), type := _, pos := _, after := _, guard := _ }) (v := ?_) rfl (by kernel_rfl) (by kernel_rfl) (by kernel_rfl) (fun _ _ _ h => h) (Or.inl ⟨by rfl, ?_⟩) (by assumption) ?_
  rotate_left 1
  · intro v hSv
    clear hSv
    go_simp
    try with_reducible rfl
  try simp only [Act.put, List.setIfInBounds_toArray, List.set_cons_zero, List.set_cons_succ]
  refine wpAnyH_take (i := 47) (oi := { dst := some 6, op := .assign (.tmp 81), type := _, pos := _, after := _, guard := _ }) (v := ?_) rfl (by kernel_rfl) (by kernel_rfl) (by kernel_rfl) (fun _ _ _ h => h) (Or.inl ⟨by rfl, ?_⟩) (by assumption) ?_
  rotate_left 1
  · intro v hSv
    clear hSv
    go_simp
    try with_reducible rfl
  try simp only [Act.put, List.setIfInBounds_toArray, List.set_cons_zero, List.set_cons_succ]
  refine wpAnyH_done (by kernel_rfl) ?_ _
  go_wp2_with fail
  go_ret
  exact ⟨rfl, HBX.out _ (hb21)⟩
theorem differs_w (hp : Pre) (ha : AliveC) (a b : List UInt8) (A B : Option Addr) (ca cb : Nat) (k d k2 d2 : List UInt8) (hk : k.length = 32) (hd : d.length = 32) (hk2 : k2.length = 32) (hd2 : d2.length = 32) (W : World)
    (hA : BA W A a) (hB : BA W B b) (hca : a.length ≤ ca) (hcb : b.length ≤ cb) :
    Calls Try.prog 7 #[.slice A a.length ca, .slice B b.length cb, .agg (bA (k ++ (d ++ (k2 ++ d2))))] W (Yes W) := by
  rcases Classical.em (1000 < a.length ∨ 1000 < b.length) with h | h
  · exact differs_long ha a b A B ca cb _ W h
  · exact differs_short hp ha a b A B ca cb k d k2 d2 hk hd hk2 hd2 W hA hB hca hcb (by omega) (by omega)
end Go.Proofs.Ytffgeoeoodogiaa
