/- The walk of PreimageBuilds (its region by program: gen-tpl6-builds.py). -/
import Derived.Test.YtffgeoeoodogiaaEf
import Derived.Test.YtffgeoeoodogiaaEb
import Derived.Test.YtffgeoeoodogiaaEc
import Derived.Test.YtffgeoeoodogiaaEh
namespace Go.Proofs.Ytffgeoeoodogiaa
open Go.RowKit

theorem ret_own {w w' : World} {v : Value} {n : Nat} {l : List UInt8} (hO : OwnB w' w.heap.size v l) (hb : Below w.heap.size w w') (hn : l.length = n) : RetN w n l (.returned v) w' := by
  subst hn
  obtain ⟨A, c, rfl, h1, h2⟩ := hO.any
  exact ⟨A, c, rfl, rfl, h1, h2, hb⟩
theorem rleaf_n (k d : List UInt8) (hk : k.length = 32) (hd : d.length = 32) (w : World) : Calls Try.prog 11 #[.agg (bA (k ++ d))] w (RetN w 65 (leafL k d)) :=
  (rleaf_c k d hk hd w).mono fun _ _ ⟨_, he, hO, hb⟩ => by subst he; exact ret_own hO hb (leaf_len hk hd)
theorem rnode_n (k d : List UInt8) (hk : k.length = 32) (hd : d.length = 32) (w : World) : Calls Try.prog 13 #[.agg (bA k), .agg (bA d)] w (RetN w 65 (nodeL k d)) :=
  (rnode_c k d hk hd w).mono fun _ _ ⟨_, he, hO, hb⟩ => by subst he; exact ret_own hO hb (node_len hk hd)
theorem rval_n (A : Option Addr) (c : Nat) (l : List UInt8) (w : World) (hA : BA w A l) (hl : l.length ≤ 1000000) : Calls Try.prog 15 #[.slice A l.length c] w (RetN w (l.length + 1) (valL l)) :=
  (rval_c A c l w hA hl).mono fun _ _ ⟨_, he, hO, hb⟩ => by subst he; exact ret_own hO hb (val_len l)
set_option maxHeartbeats 4000000 in
set_option maxRecDepth 100000 in
theorem builds_long (ha : AliveC) (k d g : List UInt8) (A : Option Addr) (c : Nat) (l : List UInt8) (W : World) (h : 1000 < l.length) :
    Calls Try.prog 3 #[.agg (bA (k ++ d)), .agg (bA g), .slice A l.length c] W (Yes W) := by
  have d1 : decide (1000 < l.length) = true := decide_eq_true h
  have d2 : decide (1000 < (l.length : Int)) = true := decide_eq_true (by omega)
  have HA := Lib.hid ha
  have HB0 : Hid (Below W.heap.size W ((W.alloc (.cells (bA (k ++ d)) 26)).alloc (.cells (bA g) 24))) := ((Below.refl _ _).alloc (Nat.le_refl _) _).alloc (by simp) _
  clear ha
  go_enter Try.func3, Try.ntmps3
  go_wp2_with fail
  refine (HA.out _).mono ?_
  rintro e w2 ⟨rfl, hb⟩
  have HB := Lib.hid (keeps HB0.out hb)
  clear hb
  go_wp2_with fail
  go_ret
  exact ⟨rfl, HB.out⟩
set_option maxHeartbeats 16000000 in
set_option maxRecDepth 100000 in
theorem builds_short (hp : Pre) (ha : AliveC) (k d g : List UInt8) (hk : k.length = 32) (hd : d.length = 32) (hg : g.length = 32) (A : Option Addr) (c : Nat) (l : List UInt8) (W : World) (hA : BA W A l) (hc : l.length ≤ c) (hl : l.length ≤ 1000) :
    Calls Try.prog 3 #[.agg (bA (k ++ d)), .agg (bA g), .slice A l.length c] W (Yes W) := by
  have q1 : decide (1000 < l.length) = false := decide_eq_false (by omega)
  have q2 : decide (1000 < (l.length : Int)) = false := decide_eq_false (by omega)
  have HP := Lib.hid hp
  have HA := Lib.hid ha
  have HK := Lib.hid hk
  have HD := Lib.hid hd
  have HG := Lib.hid hg
  have HBA := Lib.hid hA
  obtain ⟨X, hX⟩ : ∃ X, X = (W.alloc (.cells (bA (k ++ d)) 26)).alloc (.cells (bA g) 24) := ⟨_, rfl⟩
  have HX := Lib.hid hX
  have hb : Below W.heap.size W X := by rw [hX]; exact ((Below.refl _ _).alloc (Nat.le_refl _) _).alloc (by simp) _
  have l0 : RowB X W.heap.size 26 (k ++ d) := by rw [hX]; exact heap_alloc2_old W _ _
  have g0 : RowB X (W.heap.size + 1) 24 g := by rw [hX]; exact heap_alloc2_new W _ _
  have HBX : Hid (∀ w', Below X.heap.size X w' → Below W.heap.size W w') := fun w' h => keeps hb h
  have LD0 : Hid (∀ w', Below X.heap.size X w' → ldA 26 w' (.pointer (some ⟨W.heap.size, 0, none⟩)) = .ok (.value (.agg (bA (k ++ d)))) w') := fun w' h => (l0.below h).ldLeaf (by rw [List.length_append, hk, hd])
  have LD1 : Hid (∀ w', Below X.heap.size X w' → ldA 24 w' (.pointer (some ⟨W.heap.size + 1, 0, none⟩)) = .ok (.value (.agg (bA g))) w') := fun w' h => (g0.below h).ldDig hg
  have LD2 : Hid (∀ w', Below X.heap.size X w' → ldA 24 w' (.pointer (some ⟨W.heap.size, 32, none⟩)) = .ok (.value (.agg (bA d))) w') := fun w' h => ((l0.below h).parts hk hd).2
  clear hp ha hk hd hg hA hX hb l0 g0
  go_enter Try.func3, Try.ntmps3
  go_wp2_with fail
  rw [← HX.out]
  clear HX
  refine wp_region_held_drew (S := fun w' => Below X.heap.size X w') (by kernel_rfl) (Below.refl _ _).drew (fun hHeld => ?_)
  have hb0 : Below X.heap.size X X.drew := (Below.refl _ _).drew
  refine wpAnyH_ready (rs := [0]) (by kernel_rfl) (by simp) ?_
  refine AllReadyH.cons (o := { dst := some 11, op := .call _, type := _, pos := _, after := _, guard := _ }) rfl (fun K hK => ?_) AllReadyH.nil
  go_simp
  refine (HA.out _).mono ?_
  rintro e y1 ⟨rfl, hb⟩
  have hb1 : Below X.heap.size X y1 := keeps (hb0) hb
  clear hb
  go_wp2_with fail
  refine hK.out _ _ (hb1) (fun hHeld => ?_)
  clear hK K
  try simp only [Act.put, List.setIfInBounds_toArray, List.set_cons_zero, List.set_cons_succ]
  refine wpAnyH_take (i := 1) (oi := { dst := some 12, op := .move (.tmp 11), type := _, pos := _, after := _, guard := _ }) (v := ?_) rfl (by kernel_rfl) (by kernel_rfl) (by kernel_rfl) (fun _ _ _ h => h) (Or.inl ⟨by rfl, ?_⟩) (by assumption) ?_
  rotate_left 1
  · intro v hSv
    clear hSv
    go_simp
    try with_reducible rfl
  try simp only [Act.put, List.setIfInBounds_toArray, List.set_cons_zero, List.set_cons_succ]
  refine wpAnyH_take (i := 2) (oi := { dst := some 13, op := .load _ (.tmp 3), type := _, pos := _, after := _, guard := _ }) (v := ?_) rfl (by kernel_rfl) (by kernel_rfl) (by kernel_rfl) (fun _ _ _ h => h) (Or.inl ⟨by rfl, ?_⟩) (by assumption) ?_
  rotate_left 1
  · intro v hSv
    have hv1 := LD0.out v hSv
    clear hSv
    go_simp
    try with_reducible rfl
  try simp only [Act.put, List.setIfInBounds_toArray, List.set_cons_zero, List.set_cons_succ]
  refine wpAnyH_take (i := 4) (oi := { dst := some 15, op := .load _ (.tmp 3), type := _, pos := _, after := _, guard := _ }) (v := ?_) rfl (by kernel_rfl) (by kernel_rfl) (by kernel_rfl) (fun _ _ _ h => h) (Or.inl ⟨by rfl, ?_⟩) (by assumption) ?_
  rotate_left 1
  · intro v hSv
    have hv1 := LD0.out v hSv
    clear hSv
    go_simp
    try with_reducible rfl
  try simp only [Act.put, List.setIfInBounds_toArray, List.set_cons_zero, List.set_cons_succ]
  refine wpAnyH_ready (rs := [3]) (by kernel_rfl) (by simp) ?_
  refine AllReadyH.cons (o := { dst := some 14, op := .call _, type := _, pos := _, after := _, guard := _ }) rfl (fun K hK => ?_) AllReadyH.nil
  go_simp
  refine (HP.out.leaf k d _ HK.out HD.out).mono ?_
  rintro e y2 ⟨A2, c2, rfl, hn2, hc2, hA2, hb⟩
  have hb2 : Below X.heap.size X y2 := keeps (hb1) hb
  have HA2 := Lib.hid hA2
  have HN2 := Lib.hid hn2
  clear hA2 hn2 hc2
  clear hb
  go_wp2_with fail
  refine hK.out _ _ (hb2) (fun hHeld => ?_)
  clear hK K
  try simp only [Act.put, List.setIfInBounds_toArray, List.set_cons_zero, List.set_cons_succ]
  refine wpAnyH_ready (rs := [5]) (by kernel_rfl) (by simp) ?_
  refine AllReadyH.cons (o := { dst := some 16, op := .call _, type := _, pos := _, after := _, guard := _ }) rfl (fun K hK => ?_) AllReadyH.nil
  go_simp
  refine (rleaf_n k d HK.out HD.out _).mono ?_
  rintro e y3 ⟨A3, c3, rfl, hn3, hc3, hA3, hb⟩
  have hb3 : Below X.heap.size X y3 := keeps (hb2) hb
  have HA3 := Lib.hid hA3
  have HN3 := Lib.hid hn3
  have HA2 := Lib.hid (HA2.out.below hb)
  clear hA3 hn3 hc3
  clear hb
  go_wp2_with fail
  refine hK.out _ _ (hb3) (fun hHeld => ?_)
  clear hK K
  try simp only [Act.put, List.setIfInBounds_toArray, List.set_cons_zero, List.set_cons_succ]
  refine wpAnyH_ready (rs := [6]) (by kernel_rfl) (by simp) ?_
  refine AllReadyH.cons (o := { dst := some 17, op := .call _, type := _, pos := _, after := _, guard := _ }) rfl (fun K hK => ?_) AllReadyH.nil
  go_simp
  refine (same_n A2 A3 c2 c3 65 65 (leafL k d) (leafL k d) true _ HN2.out HN3.out (decide_eq_true rfl) HA2.out HA3.out (by omega) (by omega)).mono ?_
  rintro e y4 ⟨rfl, hb⟩
  have hb4 : Below X.heap.size X y4 := keeps (hb3) hb
  clear HA2 HA3 HN2 HN3
  clear hb
  go_wp2_with fail
  refine hK.out _ _ (hb4) (fun hHeld => ?_)
  clear hK K
  try simp only [Act.put, List.setIfInBounds_toArray, List.set_cons_zero, List.set_cons_succ]
  refine wpAnyH_take (i := 7) (oi := { dst := some 18, op := .pick (.tmp 12) (.tmp 17) (.const (.bool false)), type := _, pos := _, after := _, guard := _ }) (v := ?_) rfl (by kernel_rfl) (by kernel_rfl) (by kernel_rfl) (fun _ _ _ h => h) (Or.inl ⟨by rfl, ?_⟩) (by assumption) ?_
  rotate_left 1
  · intro v hSv
    clear hSv
    go_simp
    try with_reducible rfl
  try simp only [Act.put, List.setIfInBounds_toArray, List.set_cons_zero, List.set_cons_succ]
  refine wpAnyH_take (i := 8) (oi := { dst := some 19, op := .move (.tmp 18), type := _, pos := _, after := _, guard := _ }) (v := ?_) rfl (by kernel_rfl) (by kernel_rfl) (by kernel_rfl) (fun _ _ _ h => h) (Or.inl ⟨by rfl, ?_⟩) (by assumption) ?_
  rotate_left 1
  · intro v hSv
    clear hSv
    go_simp
    try with_reducible rfl
  try simp only [Act.put, List.setIfInBounds_toArray, List.set_cons_zero, List.set_cons_succ]
  refine wpAnyH_take (i := 9) (oi := { dst := some 20, op := .load _ (.tmp 4), type := _, pos := _, after := _, guard := _ }) (v := ?_) rfl (by kernel_rfl) (by kernel_rfl) (by kernel_rfl) (fun _ _ _ h => h) (Or.inl ⟨by rfl, ?_⟩) (by assumption) ?_
  rotate_left 1
  · intro v hSv
    have hv1 := LD1.out v hSv
    clear hSv
    go_simp
    try with_reducible rfl
  try simp only [Act.put, List.setIfInBounds_toArray, List.set_cons_zero, List.set_cons_succ]
  refine wpAnyH_take (i := 10) (oi := { dst := some 21, op := .fieldAddr _ (.tmp 3) 1, type := _, pos := _, after := _, guard := _ }) (v := ?_) rfl (by kernel_rfl) (by kernel_rfl) (by kernel_rfl) (fun _ _ _ h => h) (Or.inl ⟨by rfl, ?_⟩) (by assumption) ?_
  rotate_left 1
  · intro v hSv
    clear hSv
    go_simp
    try with_reducible rfl
  try simp only [Act.put, List.setIfInBounds_toArray, List.set_cons_zero, List.set_cons_succ]
  refine wpAnyH_take (i := 11) (oi := { dst := some 22, op := .load _ (.tmp 21), type := _, pos := _, after := _, guard := _ }) (v := ?_) rfl (by kernel_rfl) (by kernel_rfl) (by kernel_rfl) (fun _ _ _ h => h) (Or.inl ⟨by rfl, ?_⟩) (by assumption) ?_
  rotate_left 1
  · intro v hSv
    have hv1 := LD2.out v hSv
    clear hSv
    go_simp
    try with_reducible rfl
  try simp only [Act.put, List.setIfInBounds_toArray, List.set_cons_zero, List.set_cons_succ]
  refine wpAnyH_take (i := 13) (oi := { dst := some 24, op := .load _ (.tmp 4), type := _, pos := _, after := _, guard := _ }) (v := ?_) rfl (by kernel_rfl) (by kernel_rfl) (by kernel_rfl) (fun _ _ _ h => h) (Or.inl ⟨by rfl, ?_⟩) (by assumption) ?_
  rotate_left 1
  · intro v hSv
    have hv1 := LD1.out v hSv
    clear hSv
    go_simp
    try with_reducible rfl
  try simp only [Act.put, List.setIfInBounds_toArray, List.set_cons_zero, List.set_cons_succ]
  refine wpAnyH_take (i := 14) (oi := { dst := some 25, op := .fieldAddr _ (.tmp 3) 1, type := _, pos := _, after := _, guard := _ }) (v := ?_) rfl (by kernel_rfl) (by kernel_rfl) (by kernel_rfl) (fun _ _ _ h => h) (Or.inl ⟨by rfl, ?_⟩) (by assumption) ?_
  rotate_left 1
  · intro v hSv
    clear hSv
    go_simp
    try with_reducible rfl
  try simp only [Act.put, List.setIfInBounds_toArray, List.set_cons_zero, List.set_cons_succ]
  refine wpAnyH_take (i := 15) (oi := { dst := some 26, op := .load _ (.tmp 25), type := _, pos := _, after := _, guard := _ }) (v := ?_) rfl (by kernel_rfl) (by kernel_rfl) (by kernel_rfl) (fun _ _ _ h => h) (Or.inl ⟨by rfl, ?_⟩) (by assumption) ?_
  rotate_left 1
  · intro v hSv
    have hv1 := LD2.out v hSv
    clear hSv
    go_simp
    try with_reducible rfl
  try simp only [Act.put, List.setIfInBounds_toArray, List.set_cons_zero, List.set_cons_succ]
  refine wpAnyH_ready (rs := [12]) (by kernel_rfl) (by simp) ?_
  refine AllReadyH.cons (o := { dst := some 23, op := .call _, type := _, pos := _, after := _, guard := _ }) rfl (fun K hK => ?_) AllReadyH.nil
  go_simp
  refine (HP.out.node g d _ HG.out HD.out).mono ?_
  rintro e y5 ⟨A5, c5, rfl, hn5, hc5, hA5, hb⟩
  have hb5 : Below X.heap.size X y5 := keeps (hb4) hb
  have HA5 := Lib.hid hA5
  have HN5 := Lib.hid hn5
  clear hA5 hn5 hc5
  clear hb
  go_wp2_with fail
  refine hK.out _ _ (hb5) (fun hHeld => ?_)
  clear hK K
  try simp only [Act.put, List.setIfInBounds_toArray, List.set_cons_zero, List.set_cons_succ]
  refine wpAnyH_ready (rs := [16]) (by kernel_rfl) (by simp) ?_
  refine AllReadyH.cons (o := { dst := some 27, op := .call _, type := _, pos := _, after := _, guard := _ }) rfl (fun K hK => ?_) AllReadyH.nil
  go_simp
  refine (rnode_n g d HG.out HD.out _).mono ?_
  rintro e y6 ⟨A6, c6, rfl, hn6, hc6, hA6, hb⟩
  have hb6 : Below X.heap.size X y6 := keeps (hb5) hb
  have HA6 := Lib.hid hA6
  have HN6 := Lib.hid hn6
  have HA5 := Lib.hid (HA5.out.below hb)
  clear hA6 hn6 hc6
  clear hb
  go_wp2_with fail
  refine hK.out _ _ (hb6) (fun hHeld => ?_)
  clear hK K
  try simp only [Act.put, List.setIfInBounds_toArray, List.set_cons_zero, List.set_cons_succ]
  refine wpAnyH_ready (rs := [17]) (by kernel_rfl) (by simp) ?_
  refine AllReadyH.cons (o := { dst := some 28, op := .call _, type := _, pos := _, after := _, guard := _ }) rfl (fun K hK => ?_) AllReadyH.nil
  go_simp
  refine (same_n A5 A6 c5 c6 65 65 (nodeL g d) (nodeL g d) true _ HN5.out HN6.out (decide_eq_true rfl) HA5.out HA6.out (by omega) (by omega)).mono ?_
  rintro e y7 ⟨rfl, hb⟩
  have hb7 : Below X.heap.size X y7 := keeps (hb6) hb
  clear HA5 HA6 HN5 HN6
  clear hb
  go_wp2_with fail
  refine hK.out _ _ (hb7) (fun hHeld => ?_)
  clear hK K
  try simp only [Act.put, List.setIfInBounds_toArray, List.set_cons_zero, List.set_cons_succ]
  refine wpAnyH_take (i := 18) (oi := { dst := some 29, op := .pick (.tmp 19) (.tmp 28) (.const (.bool false)), type := _, pos := _, after := _, guard := _ }) (v := ?_) rfl (by kernel_rfl) (by kernel_rfl) (by kernel_rfl) (fun _ _ _ h => h) (Or.inl ⟨by rfl, ?_⟩) (by assumption) ?_
  rotate_left 1
  · intro v hSv
    clear hSv
    go_simp
    try with_reducible rfl
  try simp only [Act.put, List.setIfInBounds_toArray, List.set_cons_zero, List.set_cons_succ]
  refine wpAnyH_take (i := 19) (oi := { dst := some 30, op := .move (.tmp 29), type := _, pos := _, after := _, guard := _ }) (v := ?_) rfl (by kernel_rfl) (by kernel_rfl) (by kernel_rfl) (fun _ _ _ h => h) (Or.inl ⟨by rfl, ?_⟩) (by assumption) ?_
  rotate_left 1
  · intro v hSv
    clear hSv
    go_simp
    try with_reducible rfl
  try simp only [Act.put, List.setIfInBounds_toArray, List.set_cons_zero, List.set_cons_succ]
  refine wpAnyH_take (i := 20) (oi := { dst := some 31, op := .move (.tmp 2), type := _, pos := _, after := _, guard := _ }) (v := ?_) rfl (by kernel_rfl) (by kernel_rfl) (by kernel_rfl) (fun _ _ _ h => h) (Or.inl ⟨by rfl, ?_⟩) (by assumption) ?_
  rotate_left 1
  · intro v hSv
    clear hSv
    go_simp
    try with_reducible rfl
  try simp only [Act.put, List.setIfInBounds_toArray, List.set_cons_zero, List.set_cons_succ]
  refine wpAnyH_take (i := 22) (oi := { dst := some 33, op := .move (.tmp 2), type := _, pos := _, after := _, guard := _ }) (v := ?_) rfl (by kernel_rfl) (by kernel_rfl) (by kernel_rfl) (fun _ _ _ h => h) (Or.inl ⟨by rfl, ?_⟩) (by assumption) ?_
  rotate_left 1
  · intro v hSv
    clear hSv
    go_simp
    try with_reducible rfl
  try simp only [Act.put, List.setIfInBounds_toArray, List.set_cons_zero, List.set_cons_succ]
  refine wpAnyH_ready (rs := [21]) (by kernel_rfl) (by simp) ?_
  refine AllReadyH.cons (o := { dst := some 32, op := .call _, type := _, pos := _, after := _, guard := _ }) rfl (fun K hK => ?_) AllReadyH.nil
  go_simp
  refine (HP.out.val A c l _ (HBA.out.below (HBX.out _ (hb7))) hc hl).mono ?_
  rintro e y8 ⟨A8, c8, rfl, hn8, hc8, hA8, hb⟩
  have hb8 : Below X.heap.size X y8 := keeps (hb7) hb
  have HA8 := Lib.hid hA8
  have HN8 := Lib.hid hn8
  clear hA8 hn8 hc8
  clear hb
  go_wp2_with fail
  refine hK.out _ _ (hb8) (fun hHeld => ?_)
  clear hK K
  try simp only [Act.put, List.setIfInBounds_toArray, List.set_cons_zero, List.set_cons_succ]
  refine wpAnyH_ready (rs := [23]) (by kernel_rfl) (by simp) ?_
  refine AllReadyH.cons (o := { dst := some 34, op := .call _, type := _, pos := _, after := _, guard := _ }) rfl (fun K hK => ?_) AllReadyH.nil
  go_simp
  refine (rval_n A c l _ (HBA.out.below (HBX.out _ (hb8))) (by omega)).mono ?_
  rintro e y9 ⟨A9, c9, rfl, hn9, hc9, hA9, hb⟩
  have hb9 : Below X.heap.size X y9 := keeps (hb8) hb
  have HA9 := Lib.hid hA9
  have HN9 := Lib.hid hn9
  have HA8 := Lib.hid (HA8.out.below hb)
  clear hA9 hn9 hc9
  clear hb
  go_wp2_with fail
  refine hK.out _ _ (hb9) (fun hHeld => ?_)
  clear hK K
  try simp only [Act.put, List.setIfInBounds_toArray, List.set_cons_zero, List.set_cons_succ]
  refine wpAnyH_ready (rs := [24]) (by kernel_rfl) (by simp) ?_
  refine AllReadyH.cons (o := { dst := some 35, op := .call _, type := _, pos := _, after := _, guard := _ }) rfl (fun K hK => ?_) AllReadyH.nil
  go_simp
  refine (same_n A8 A9 c8 c9 (l.length + 1) (l.length + 1) (valL l) (valL l) true _ HN8.out HN9.out (decide_eq_true rfl) HA8.out HA9.out (by omega) (by omega)).mono ?_
  rintro e y10 ⟨rfl, hb⟩
  have hb10 : Below X.heap.size X y10 := keeps (hb9) hb
  clear HA8 HA9 HN8 HN9
  clear hb
  go_wp2_with fail
  refine hK.out _ _ (hb10) (fun hHeld => ?_)
  clear hK K
  try simp only [Act.put, List.setIfInBounds_toArray, List.set_cons_zero, List.set_cons_succ]
  refine wpAnyH_take (i := 25) (oi := { dst := some 36, op := .pick (.tmp 30) (.tmp 35) (.const (.bool false)), type := _, pos := _, after := _, guard := _ }) (v := ?_) rfl (by kernel_rfl) (by kernel_rfl) (by kernel_rfl) (fun _ _ _ h => h) (Or.inl ⟨by rfl, ?_⟩) (by assumption) ?_
  rotate_left 1
  · intro v hSv
    clear hSv
    go_simp
    try with_reducible rfl
  try simp only [Act.put, List.setIfInBounds_toArray, List.set_cons_zero, List.set_cons_succ]
  refine wpAnyH_take (i := 26) (oi := { dst := some 37, op := .move (.tmp 36), type := _, pos := _, after := _, guard := _ }) (v := ?_) rfl (by kernel_rfl) (by kernel_rfl) (by kernel_rfl) (fun _ _ _ h => h) (Or.inl ⟨by rfl, ?_⟩) (by assumption) ?_
  rotate_left 1
  · intro v hSv
    clear hSv
    go_simp
    try with_reducible rfl
  try simp only [Act.put, List.setIfInBounds_toArray, List.set_cons_zero, List.set_cons_succ]
  refine wpAnyH_ready (rs := [27, 28]) (by kernel_rfl) (by simp) ?_
  refine AllReadyH.cons (o := { dst := some 38, op := .call _, type := _, pos := _, after := _, guard := _ }) rfl (fun K hK => ?_) (AllReadyH.cons (o := { dst := some 39, op := .buildSlice _ _ _, type := _, pos := _, after := _, guard := _ }) rfl (fun K hK => ?_) (AllReadyH.nil))
  · skip
    go_simp
    refine (HP.out.empty _).mono ?_
    rintro e y11 ⟨A11, c11, rfl, hn11, hc11, hA11, hb⟩
    have hb11 : Below X.heap.size X y11 := keeps (hb10) hb
    have HA11 := Lib.hid hA11
    have HN11 := Lib.hid hn11
    clear hA11 hn11 hc11
    clear hb
    go_wp2_with fail
    refine hK.out _ _ (hb11) (fun hHeld => ?_)
    clear hK K
    try simp only [Act.put, List.setIfInBounds_toArray, List.set_cons_zero, List.set_cons_succ]
    refine wpAnyH_ready (rs := [28]) (by kernel_rfl) (by simp) ?_
    refine AllReadyH.cons (o := { dst := some 39, op := .buildSlice _ _ _, type := _, pos := _, after := _, guard := _ }) rfl (fun K hK => ?_) AllReadyH.nil
    go_simp
    refine hK.out _ _ (made_bel (hb11) _) (fun hHeld => ?_)
    clear hK K
    try simp only [Act.put, List.setIfInBounds_toArray, List.set_cons_zero, List.set_cons_succ]
    refine wpAnyH_ready (rs := [29]) (by kernel_rfl) (by simp) ?_
    refine AllReadyH.cons (o := { dst := some 40, op := .call _, type := _, pos := _, after := _, guard := _ }) rfl (fun K hK => ?_) AllReadyH.nil
    go_simp
    refine (same_n A11 (some ⟨y11.heap.size, 0, none⟩) c11 1 1 1 emptyL b3 true _ HN11.out rfl (by decide) (HA11.out.below (made_bel (Below.refl _ _) _)) (made_ba y11 b3) (by omega) (by omega)).mono ?_
    rintro e y12 ⟨rfl, hb⟩
    have hb12 : Below X.heap.size X y12 := keeps (made_bel (hb11) _) hb
    clear hb
    go_wp2_with fail
    refine hK.out _ _ (hb12) (fun hHeld => ?_)
    clear hK K
    try simp only [Act.put, List.setIfInBounds_toArray, List.set_cons_zero, List.set_cons_succ]
    refine wpAnyH_take (i := 30) (oi := { dst := some 41, op := .pick (.tmp 37) (.tmp 40) (.const (.bool false)), type := _, pos := _, after := _, guard := _ }) (v := ?_) rfl (by kernel_rfl) (by kernel_rfl) (by kernel_rfl) (fun _ _ _ h => h) (Or.inl ⟨by rfl, ?_⟩) (by assumption) ?_
    rotate_left 1
    · intro v hSv
      clear hSv
      go_simp
      try with_reducible rfl
    try simp only [Act.put, List.setIfInBounds_toArray, List.set_cons_zero, List.set_cons_succ]
    refine wpAnyH_take (i := 31) (oi := { dst := some 6, op := .assign (.tmp 41), type := _, pos := _, after := _, guard := _ }) (v := ?_) rfl (by kernel_rfl) (by kernel_rfl) (by kernel_rfl) (fun _ _ _ h => h) (Or.inl ⟨by rfl, ?_⟩) (by assumption) ?_
    rotate_left 1
    · intro v hSv
      clear hSv
      go_simp
      try with_reducible rfl
    try simp only [Act.put, List.setIfInBounds_toArray, List.set_cons_zero, List.set_cons_succ]
    refine wpAnyH_done (by kernel_rfl) ?_ _
    go_wp2_with fail
    go_ret
    exact ⟨rfl, HBX.out _ (hb12)⟩
  · skip
    go_simp
    refine hK.out _ _ (made_bel (hb10) _) (fun hHeld => ?_)
    clear hK K
    try simp only [Act.put, List.setIfInBounds_toArray, List.set_cons_zero, List.set_cons_succ]
    refine wpAnyH_ready (rs := [27]) (by kernel_rfl) (by simp) ?_
    refine AllReadyH.cons (o := { dst := some 38, op := .call _, type := _, pos := _, after := _, guard := _ }) rfl (fun K hK => ?_) AllReadyH.nil
    go_simp
    refine (HP.out.empty _).mono ?_
    rintro e y13 ⟨A13, c13, rfl, hn13, hc13, hA13, hb⟩
    have hb13 : Below X.heap.size X y13 := keeps (made_bel (hb10) _) hb
    have HA13 := Lib.hid hA13
    have HN13 := Lib.hid hn13
    have HM : Hid (BA y13 (some ⟨y10.heap.size, 0, none⟩) b3) := BA.below (made_ba y10 b3) hb
    clear hA13 hn13 hc13
    clear hb
    go_wp2_with fail
    refine hK.out _ _ (hb13) (fun hHeld => ?_)
    clear hK K
    try simp only [Act.put, List.setIfInBounds_toArray, List.set_cons_zero, List.set_cons_succ]
    refine wpAnyH_ready (rs := [29]) (by kernel_rfl) (by simp) ?_
    refine AllReadyH.cons (o := { dst := some 40, op := .call _, type := _, pos := _, after := _, guard := _ }) rfl (fun K hK => ?_) AllReadyH.nil
    go_simp
    refine (same_n A13 (some ⟨y10.heap.size, 0, none⟩) c13 1 1 1 emptyL b3 true _ HN13.out rfl (by decide) HA13.out HM.out (by omega) (by omega)).mono ?_
    rintro e y14 ⟨rfl, hb⟩
    have hb14 : Below X.heap.size X y14 := keeps (hb13) hb
    clear hb
    go_wp2_with fail
    refine hK.out _ _ (hb14) (fun hHeld => ?_)
    clear hK K
    try simp only [Act.put, List.setIfInBounds_toArray, List.set_cons_zero, List.set_cons_succ]
    refine wpAnyH_take (i := 30) (oi := { dst := some 41, op := .pick (.tmp 37) (.tmp 40) (.const (.bool false)), type := _, pos := _, after := _, guard := _ }) (v := ?_) rfl (by kernel_rfl) (by kernel_rfl) (by kernel_rfl) (fun _ _ _ h => h) (Or.inl ⟨by rfl, ?_⟩) (by assumption) ?_
    rotate_left 1
    · intro v hSv
      clear hSv
      go_simp
      try with_reducible rfl
    try simp only [Act.put, List.setIfInBounds_toArray, List.set_cons_zero, List.set_cons_succ]
    refine wpAnyH_take (i := 31) (oi := { dst := some 6, op := .assign (.tmp 41), type := _, pos := _, after := _, guard := _ }) (v := ?_) rfl (by kernel_rfl) (by kernel_rfl) (by kernel_rfl) (fun _ _ _ h => h) (Or.inl ⟨by rfl, ?_⟩) (by assumption) ?_
    rotate_left 1
    · intro v hSv
      clear hSv
      go_simp
      try with_reducible rfl
    try simp only [Act.put, List.setIfInBounds_toArray, List.set_cons_zero, List.set_cons_succ]
    refine wpAnyH_done (by kernel_rfl) ?_ _
    go_wp2_with fail
    go_ret
    exact ⟨rfl, HBX.out _ (hb14)⟩
theorem builds_w (hp : Pre) (ha : AliveC) (k d g : List UInt8) (hk : k.length = 32) (hd : d.length = 32) (hg : g.length = 32) (A : Option Addr) (c : Nat) (l : List UInt8) (W : World) (hA : BA W A l) (hc : l.length ≤ c) :
    Calls Try.prog 3 #[.agg (bA (k ++ d)), .agg (bA g), .slice A l.length c] W (Yes W) := by
  rcases Nat.lt_or_ge 1000 l.length with h | h
  · exact builds_long ha k d g A c l W h
  · exact builds_short hp ha k d g hk hd hg A c l W hA hc h
end Go.Proofs.Ytffgeoeoodogiaa
