/- The program's Leaf, Node, Value, Empty, as they landed (regions by program: gen-tpl6-leaf.py). -/
import Derived.Test.YtdoanibgcogejaaDoorPq
namespace Go.Proofs.YtdoanibgcogejaaDoor
open Go.RowKit

theorem sl_all {t n : Nat} (hu : Tryd.prog.underlying t = some (.array n 5)) (hn : Tryd.prog.arrayLen t = n) (he : Tryd.prog.elem t = 5) (_h0 : 0 < n) (g o : Nat) (w : World) :
    (Instr.sliceAt t (.pointer (some ⟨g, o, none⟩)) none none none).run Tryd.prog w = .ok (.slice (some ⟨g, o, none⟩) n n) w := by
  rw [run_sliceAt_array_all w t _ (by rw [hn, he]; exact hu), he, size5, hn]
  simp [slicedAt, add_none]
theorem sl_two {w : World} (A B : Option Addr) (k d : List UInt8) (t : TypeId) (hk : k.length = 32) (hd : d.length = 32) (h1 : BA w A k) (h2 : BA w B d) :
    SL (w.alloc (.cells #[.slice A 32 32, .slice B 32 32] t)) (some ⟨w.heap.size, 0, none⟩) [⟨A, k, 32⟩, ⟨B, d, 32⟩] := by
  have := sl_made w [⟨A, k, 32⟩, ⟨B, d, 32⟩] t fun x hx => by
    simp only [List.mem_cons, List.not_mem_nil, or_false] at hx
    rcases hx with rfl | rfl
    · exact ⟨Nat.le_of_eq hk, h1⟩
    · exact ⟨Nat.le_of_eq hd, h2⟩
  simpa only [List.map_cons, List.map_nil, Pc.val, hk, hd] using this
theorem cat_two (A B : Option Addr) (k d : List UInt8) : catAll [⟨A, k, 32⟩, ⟨B, d, 32⟩] = k ++ d := by simp [catAll]
theorem ret_own2 {W w' : World} {B : Nat} {v : Value} {n : Nat} {l : List UInt8} (hO : OwnB w' B v l) (hb : Below W.heap.size W w') (hn : l.length = n) : RetN W n l (.returned v) w' := by
  subst hn
  obtain ⟨A, c, rfl, h1, h2⟩ := hO.any
  exact ⟨A, c, rfl, rfl, h1, h2, hb⟩
/-- A part of a row of bytes, as bytes. -/
theorem RowB.part {w : World} {b : Nat} {t : TypeId} {l p : List UInt8} (h : RowB w b t l) (o n : Nat) (hp : (l.drop o).take n = p) : BA w (some ⟨b, o, none⟩) p := fun j x hx => by
  refine ⟨b, o, rfl, ?_⟩
  rw [← hp, List.getElem?_take] at hx
  split at hx
  · rw [List.getElem?_drop] at hx
    have hlt := (List.getElem?_eq_some_iff.1 hx).1
    rw [cell_of_cells h, bA_at _ _ hlt, List.getD_eq_getElem?_getD, hx]
    rfl
  · cases hx
set_option maxHeartbeats 8000000 in
set_option maxRecDepth 100000 in
theorem pleaf_c (k d : List UInt8) (W : World) (hk : k.length = 32) (hd : d.length = 32) : Calls Tryd.prog 38 #[.agg (bA (k ++ d))] W (RetN W 65 (leafL k d)) := by
  obtain ⟨X, hX⟩ : ∃ X, X = W.alloc (.cells (bA (k ++ d)) 44) := ⟨_, rfl⟩
  have HX := Lib.hid hX
  have HBX : Hid (Below W.heap.size W X) := by show Below _ _ _; rw [hX]; exact (Below.refl _ _).alloc (Nat.le_refl _) _
  have r0 : RowB X W.heap.size 44 (k ++ d) := by rw [hX]; exact heap_alloc_last W _
  have BK : Hid (BA X.drew (some ⟨W.heap.size, 0, none⟩) k) := RowB.part (w := X.drew) r0 0 32 (by rw [List.drop_zero, List.take_append_of_le_length (by omega), List.take_of_length_le (by omega)])
  have BD : Hid (BA X.drew (some ⟨W.heap.size, 32, none⟩) d) := RowB.part (w := X.drew) r0 32 32 (by rw [List.drop_append, List.drop_of_length_le (by omega), hk, List.nil_append, Nat.sub_self, List.drop_zero, List.take_of_length_le (by omega)])
  have HK := Lib.hid hk
  have HD := Lib.hid hd
  have s1 := fun w => sl_all (t := 36) Tryd.underlying36 (by kernel_rfl) (by kernel_rfl) (by decide) W.heap.size 0 w
  have s2 := fun w => sl_all (t := 30) Tryd.underlying30 (by kernel_rfl) (by kernel_rfl) (by decide) W.heap.size 32 w
  clear hX r0 hk hd
  go_enter Tryd.func38, Tryd.ntmps38
  go_wp2_with fail
  rw [← HX.out]
  refine wp_region_held_drew (S := fun w' => Below X.heap.size X w') (by kernel_rfl) ((Below.refl _ _).drew) (fun hHeld => ?_)
  have hb0 : Below X.heap.size X X.drew := (Below.refl _ _).drew
  refine wpAnyH_take (i := 0) (oi := { dst := some 3, op := .fieldAddr _ (.tmp 1) 0, type := _, pos := _, after := _, guard := _ }) (v := ?_) rfl (by kernel_rfl) (by kernel_rfl) (by kernel_rfl) (fun _ _ _ h => h) (Or.inl ⟨by rfl, ?_⟩) (by assumption) ?_
  rotate_left 1
  · intro v hSv
    clear hSv
    go_simp
    try with_reducible rfl
  try simp only [Act.put, List.setIfInBounds_toArray, List.set_cons_zero, List.set_cons_succ]
  refine wpAnyH_take (i := 1) (oi := { dst := some 4, op := .slice _ (.tmp 3) none none none, type := _, pos := _, after := _, guard := _ }) (v := ?_) rfl (by kernel_rfl) (by kernel_rfl) (by kernel_rfl) (fun _ _ _ h => h) (Or.inl ⟨by rfl, ?_⟩) (by assumption) ?_
  rotate_left 1
  · intro v hSv
    clear hSv
    go_simp
    try with_reducible rfl
  try simp only [Act.put, List.setIfInBounds_toArray, List.set_cons_zero, List.set_cons_succ]
  refine wpAnyH_take (i := 2) (oi := { dst := some 5, op := .fieldAddr _ (.tmp 1) 1, type := _, pos := _, after := _, guard := _ }) (v := ?_) rfl (by kernel_rfl) (by kernel_rfl) (by kernel_rfl) (fun _ _ _ h => h) (Or.inl ⟨by rfl, ?_⟩) (by assumption) ?_
  rotate_left 1
  · intro v hSv
    clear hSv
    go_simp
    try with_reducible rfl
  try simp only [Act.put, List.setIfInBounds_toArray, List.set_cons_zero, List.set_cons_succ]
  refine wpAnyH_take (i := 3) (oi := { dst := some 6, op := .slice _ (.tmp 5) none none none, type := _, pos := _, after := _, guard := _ }) (v := ?_) rfl (by kernel_rfl) (by kernel_rfl) (by kernel_rfl) (fun _ _ _ h => h) (Or.inl ⟨by rfl, ?_⟩) (by assumption) ?_
  rotate_left 1
  · intro v hSv
    clear hSv
    go_simp
    try with_reducible rfl
  try simp only [Act.put, List.setIfInBounds_toArray, List.set_cons_zero, List.set_cons_succ]
  refine wpAnyH_ready (rs := [4]) (by kernel_rfl) (by simp) ?_
  refine AllReadyH.cons (o := { dst := some 7, op := .buildSlice _ _ _, type := _, pos := _, after := _, guard := _ }) rfl (fun K hK => ?_) AllReadyH.nil
  go_simp
  refine hK.out _ _ (made_bel (hb0) _) (fun hHeld => ?_)
  clear hK K
  try simp only [Act.put, List.setIfInBounds_toArray, List.set_cons_zero, List.set_cons_succ]
  refine wpAnyH_ready (rs := [5]) (by kernel_rfl) (by simp) ?_
  refine AllReadyH.cons (o := { dst := some 8, op := .call _, type := _, pos := _, after := _, guard := _ }) rfl (fun K hK => ?_) AllReadyH.nil
  go_simp
  refine (pjoin_c 0 _ 2 [⟨some ⟨W.heap.size, 0, none⟩, k, 32⟩, ⟨some ⟨W.heap.size, 32, none⟩, d, 32⟩] _ (sl_two (some ⟨W.heap.size, 0, none⟩) (some ⟨W.heap.size, 32, none⟩) k d 37 HK.out HD.out BK.out BD.out) (by rw [cat_two, List.length_append, HK.out, HD.out]; decide) (show 2 ≤ 1000000 by decide)).mono ?_
  rintro e y1 ⟨v, rfl, hO, hb⟩
  have hb1 : Below X.heap.size X y1 := keeps (made_bel (hb0) _) hb
  rw [cat_two] at hO
  have HO := Lib.hid (hO.mono (show W.heap.size ≤ _ from (HBX.out.alloc HBX.out.size _).size))
  clear hO
  clear hb
  go_wp2_with fail
  refine hK.out _ _ (hb1) (fun hHeld => ?_)
  clear hK K
  try simp only [Act.put, List.setIfInBounds_toArray, List.set_cons_zero, List.set_cons_succ]
  refine wpAnyH_take (i := 6) (oi := { dst := some 2, op := .assign (.tmp 8), type := _, pos := _, after := _, guard := _ }) (v := ?_) rfl (by kernel_rfl) (by kernel_rfl) (by kernel_rfl) (fun _ _ _ h => h) (Or.inl ⟨by rfl, ?_⟩) (by assumption) ?_
  rotate_left 1
  · intro v hSv
    clear hSv
    go_simp
    try with_reducible rfl
  try simp only [Act.put, List.setIfInBounds_toArray, List.set_cons_zero, List.set_cons_succ]
  refine wpAnyH_done (by kernel_rfl) ?_ _
  go_wp2_with fail
  go_ret
  exact ret_own2 HO.out (keeps HBX.out (hb1)) (leaf_len HK.out HD.out)
set_option maxHeartbeats 8000000 in
set_option maxRecDepth 100000 in
theorem pnode_c (k d : List UInt8) (W : World) (hk : k.length = 32) (hd : d.length = 32) : Calls Tryd.prog 44 #[.agg (bA k), .agg (bA d)] W (RetN W 65 (nodeL k d)) := by
  obtain ⟨X, hX⟩ : ∃ X, X = (W.alloc (.cells (bA k) 30)).alloc (.cells (bA d) 30) := ⟨_, rfl⟩
  have HX := Lib.hid hX
  have HBX : Hid (Below W.heap.size W X) := by show Below _ _ _; rw [hX]; exact ((Below.refl _ _).alloc (Nat.le_refl _) _).alloc (by simp) _
  have r0 : RowB X W.heap.size 30 k := by rw [hX]; exact heap_alloc2_old W _ _
  have r1 : RowB X (W.heap.size + 1) 30 d := by rw [hX]; exact heap_alloc2_new W _ _
  have BK : Hid (BA X.drew (some ⟨W.heap.size, 0, none⟩) k) := BA_row (w := X.drew) r0
  have BD : Hid (BA X.drew (some ⟨W.heap.size + 1, 0, none⟩) d) := BA_row (w := X.drew) r1
  have HK := Lib.hid hk
  have HD := Lib.hid hd
  have s1 := fun w => sl_all (t := 30) Tryd.underlying30 (by kernel_rfl) (by kernel_rfl) (by decide) W.heap.size 0 w
  have s2 := fun w => sl_all (t := 30) Tryd.underlying30 (by kernel_rfl) (by kernel_rfl) (by decide) (W.heap.size + 1) 0 w
  clear hX r0 r1 hk hd
  go_enter Tryd.func44, Tryd.ntmps44
  go_wp2_with fail
  rw [← HX.out]
  refine wp_region_held_drew (S := fun w' => Below X.heap.size X w') (by kernel_rfl) ((Below.refl _ _).drew) (fun hHeld => ?_)
  have hb0 : Below X.heap.size X X.drew := (Below.refl _ _).drew
  refine wpAnyH_take (i := 0) (oi := { dst := some 5, op := .slice _ (.tmp 2) none none none, type := _, pos := _, after := _, guard := _ }) (v := ?_) rfl (by kernel_rfl) (by kernel_rfl) (by kernel_rfl) (fun _ _ _ h => h) (Or.inl ⟨by rfl, ?_⟩) (by assumption) ?_
  rotate_left 1
  · intro v hSv
    clear hSv
    go_simp
    try with_reducible rfl
  try simp only [Act.put, List.setIfInBounds_toArray, List.set_cons_zero, List.set_cons_succ]
  refine wpAnyH_take (i := 1) (oi := { dst := some 6, op := .slice _ (.tmp 3) none none none, type := _, pos := _, after := _, guard := _ }) (v := ?_) rfl (by kernel_rfl) (by kernel_rfl) (by kernel_rfl) (fun _ _ _ h => h) (Or.inl ⟨by rfl, ?_⟩) (by assumption) ?_
  rotate_left 1
  · intro v hSv
    clear hSv
    go_simp
    try with_reducible rfl
  try simp only [Act.put, List.setIfInBounds_toArray, List.set_cons_zero, List.set_cons_succ]
  refine wpAnyH_ready (rs := [2]) (by kernel_rfl) (by simp) ?_
  refine AllReadyH.cons (o := { dst := some 7, op := .buildSlice _ _ _, type := _, pos := _, after := _, guard := _ }) rfl (fun K hK => ?_) AllReadyH.nil
  go_simp
  refine hK.out _ _ (made_bel (hb0) _) (fun hHeld => ?_)
  clear hK K
  try simp only [Act.put, List.setIfInBounds_toArray, List.set_cons_zero, List.set_cons_succ]
  refine wpAnyH_ready (rs := [3]) (by kernel_rfl) (by simp) ?_
  refine AllReadyH.cons (o := { dst := some 8, op := .call _, type := _, pos := _, after := _, guard := _ }) rfl (fun K hK => ?_) AllReadyH.nil
  go_simp
  refine (pjoin_c 1 _ 2 [⟨some ⟨W.heap.size, 0, none⟩, k, 32⟩, ⟨some ⟨W.heap.size + 1, 0, none⟩, d, 32⟩] _ (sl_two (some ⟨W.heap.size, 0, none⟩) (some ⟨W.heap.size + 1, 0, none⟩) k d 37 HK.out HD.out BK.out BD.out) (by rw [cat_two, List.length_append, HK.out, HD.out]; decide) (show 2 ≤ 1000000 by decide)).mono ?_
  rintro e y1 ⟨v, rfl, hO, hb⟩
  have hb1 : Below X.heap.size X y1 := keeps (made_bel (hb0) _) hb
  rw [cat_two] at hO
  have HO := Lib.hid (hO.mono (show W.heap.size ≤ _ from (HBX.out.alloc HBX.out.size _).size))
  clear hO
  clear hb
  go_wp2_with fail
  refine hK.out _ _ (hb1) (fun hHeld => ?_)
  clear hK K
  try simp only [Act.put, List.setIfInBounds_toArray, List.set_cons_zero, List.set_cons_succ]
  refine wpAnyH_take (i := 4) (oi := { dst := some 4, op := .assign (.tmp 8), type := _, pos := _, after := _, guard := _ }) (v := ?_) rfl (by kernel_rfl) (by kernel_rfl) (by kernel_rfl) (fun _ _ _ h => h) (Or.inl ⟨by rfl, ?_⟩) (by assumption) ?_
  rotate_left 1
  · intro v hSv
    clear hSv
    go_simp
    try with_reducible rfl
  try simp only [Act.put, List.setIfInBounds_toArray, List.set_cons_zero, List.set_cons_succ]
  refine wpAnyH_done (by kernel_rfl) ?_ _
  go_wp2_with fail
  go_ret
  exact ret_own2 HO.out (keeps HBX.out (hb1)) (node_len HK.out HD.out)
set_option maxHeartbeats 1000000 in
set_option maxRecDepth 100000 in
theorem pval_c (A : Option Addr) (c : Nat) (l : List UInt8) (W : World) (hA : BA W A l) (hc : l.length ≤ c) (hl : l.length ≤ 1000) : Calls Tryd.prog 55 #[.slice A l.length c] W (RetN W (l.length + 1) (valL l)) := by
  have hj := pjoin_c 2 _ 1 [⟨A, l, c⟩] _ (sl_one hA hc 37) (by simp [catAll]; omega) (by simp)
  rw [show catAll [⟨A, l, c⟩] = l by simp [catAll]] at hj
  have HJ := Lib.hid hj
  have HB0 : Hid (Below W.heap.size W (W.alloc (.cells #[.slice A l.length c] 37))) := (Below.refl _ _).alloc (Nat.le_refl _) _
  clear hj hA
  go_enter Tryd.func55, Tryd.ntmps55
  go_wp2_with fail
  refine HJ.out.mono ?_
  rintro e w2 ⟨v, rfl, hO, hb⟩
  have HB := Lib.hid (keeps HB0.out hb)
  have HO := Lib.hid hO
  clear hO hb
  go_wp2_with fail
  go_ret
  exact ret_own2 HO.out HB.out (val_len l)
set_option maxHeartbeats 1000000 in
set_option maxRecDepth 100000 in
theorem pempty_c (W : World) : Calls Tryd.prog 32 #[] W (RetN W 1 emptyL) := by
  have HJ := Lib.hid (pjoin_c 3 none 0 [] W (fun i x hx => by simp at hx) (by simp [catAll]) (by simp))
  go_enter Tryd.func32, Tryd.ntmps32
  go_wp2_with fail
  refine HJ.out.mono ?_
  rintro e w2 ⟨v, rfl, hO, hb⟩
  have HB := Lib.hid hb
  have HO := Lib.hid hO
  clear hO hb
  go_wp2_with fail
  go_ret
  exact ret_own2 HO.out HB.out rfl
end Go.Proofs.YtdoanibgcogejaaDoor
