/- The program's SplitNode, as it landed. -/
import Derived.Test.YtffgeoeoodogiaaDoorGb
namespace Go.Proofs.YtffgeoeoodogiaaDoor
open Go.RowKit

set_option maxHeartbeats 4000000 in
set_option maxRecDepth 100000 in
theorem splitNode_c (A : Option Addr) (c : Nat) (l : List UInt8) (w : World) (hA : BA w A l) (hc : l.length ≤ c) (hm : l.length ≤ maxLen) :
    Calls Tryd.prog 11 #[.slice A l.length c] w fun e w' =>
      e = .returned (.tuple #[.agg (bA (if kindL l = 1 then partL l 1 else z26)), .agg (bA (if kindL l = 1 then partL l 33 else z26)), .bool (decide (kindL l = 1))]) ∧ Below w.heap.size w w' := by
  obtain ⟨X, hX⟩ : ∃ X, X = (w.alloc (.cells (bA z26) 31)).alloc (.cells (bA z26) 31) := ⟨_, rfl⟩
  have hb0 : Below w.heap.size w X := by rw [hX]; exact ((Below.refl _ _).alloc (Nat.le_refl _) _).alloc (by simp) _
  have r0 : RowB X w.heap.size 31 z26 := by rw [hX]; exact heap_alloc2_old w _ _
  have r1 : RowB X (w.heap.size + 1) 31 z26 := by rw [hX]; exact heap_alloc2_new w _ _
  have HK := Lib.hid (kind_c A c l X (hA.below hb0) hm)
  have HB0 := Lib.hid hb0
  have HR0 := Lib.hid r0
  have HR1 := Lib.hid r1
  have HX := Lib.hid hX
  by_cases hk : kindL l = 1
  · have hlen := kind01 (.inr hk)
    rw [if_pos hk, if_pos hk, decide_eq_true hk]
    rw [hk] at HK
    rw [hlen] at HK hc ⊢
    obtain ⟨g, o, rfl, hx0⟩ := hA 0 _ (List.getElem?_eq_getElem (show 0 < l.length by omega))
    clear hx0
    obtain ⟨p, hp⟩ : ∃ p, p = partL l 1 := ⟨_, rfl⟩
    obtain ⟨q, hq⟩ : ∃ q, q = partL l 33 := ⟨_, rfl⟩
    have HP1 : Hid (p.length = 32) := by show _ = _; rw [hp]; exact part_len (b := l) (o := 1) (by omega)
    have HP2 : Hid (q.length = 32) := by show _ = _; rw [hq]; exact part_len (b := l) (o := 33) (by omega)
    have hBK : ∀ w', Keep (fun i => i = w.heap.size ∨ i = w.heap.size + 1) X w' → BA w' (some ⟨g, o, none⟩) l := fun w' h => hA.below (hb0.trans (h.below hb0.size fun i hi => by omega))
    have L1 : Hid (∀ w', Keep (fun i => i = w.heap.size ∨ i = w.heap.size + 1) X w' → ldA 31 w' (.pointer (some ⟨g, o + 1, none⟩)) = .ok (.value (.agg (bA p))) w') := fun w' h => by rw [hp]; exact BA.ld (hBK w' h) (by omega) Tryd.underlying31 info26
    have L2 : Hid (∀ w', Keep (fun i => i = w.heap.size ∨ i = w.heap.size + 1) X w' → ldA 31 w' (.pointer (some ⟨g, o + 33, none⟩)) = .ok (.value (.agg (bA q))) w') := fun w' h => by rw [hq]; exact BA.ld (hBK w' h) (by omega) Tryd.underlying31 info26
    have c1 : ∀ w, (Instr.sliceAt 24 (.slice (some ⟨g, o, none⟩) 65 c) (some (.int .i64 1)) (some (.int .i64 33)) none).run Tryd.prog w = .ok (.slice (some ⟨g, o + 1, none⟩) 32 (c - 1)) w := fun w => sl_lh g o 65 c 1 33 (by decide) (by omega) (by omega) 1 33 rfl rfl w
    have c2 : ∀ w, (Instr.sliceAt 24 (.slice (some ⟨g, o, none⟩) 65 c) (some (.int .i64 33)) none none).run Tryd.prog w = .ok (.slice (some ⟨g, o + 33, none⟩) 32 (c - 33)) w := fun w => sl_l g o 65 c 33 (by decide) (by omega) 33 rfl w
    have a2 := fun (A : Option Addr) (c : Nat) (w : World) => arr_at Tryd.underlying31 A 32 c (Nat.le_refl _) w
    rw [← hp, ← hq]
    clear hk hA hb0 hX hlen hp hq r0 r1 hBK
    go_enter Tryd.func11, Tryd.ntmps11
    go_wp2_with fail
    rw [← HX.out]
    refine HK.out.mono ?_
    rintro e w2 ⟨rfl, rfl⟩
    go_wp2_with fail
    refine wp_region_held_drew (S := fun w' => Keep (fun i => i = w.heap.size ∨ i = w.heap.size + 1) X w') (by kernel_rfl) ((Keep.refl _ _).drew) (fun hHeld => ?_)
    have hb0 : Keep (fun i => i = w.heap.size ∨ i = w.heap.size + 1) X X.drew := (Keep.refl _ _).drew
    refine wpAnyH_take (i := 0) (oi := { dst := some 10, op := .move (.tmp 0), type := _, pos := _, after := _, guard := _ }) (v := ?_) rfl (by kernel_rfl) (by kernel_rfl) (by kernel_rfl) (fun _ _ _ h => h) (Or.inl ⟨by rfl, ?_⟩) (by assumption) ?_
    rotate_left 1
    · intro v hSv
      clear hSv
      go_simp
      try with_reducible rfl
    try simp only [Act.put, List.setIfInBounds_toArray, List.set_cons_zero, List.set_cons_succ]
    refine wpAnyH_take (i := 1) (oi := { dst := some 11, op := .slice _ (.tmp 10) (some (.const (.int .i64 1))) (some (.const (.int .i64 33))) none, type := _, pos := _, after := _, guard := _ }) (v := ?_) rfl (by kernel_rfl) (by kernel_rfl) (by kernel_rfl) (fun _ _ _ h => h) (Or.inl ⟨by rfl, ?_⟩) (by assumption) ?_
    rotate_left 1
    · intro v hSv
      clear hSv
      go_simp
      try with_reducible rfl
    try simp only [Act.put, List.setIfInBounds_toArray, List.set_cons_zero, List.set_cons_succ]
    refine wpAnyH_take (i := 2) (oi := { dst := some 12, op := .sliceToArrayPointer _ (.tmp 11), type := _, pos := _, after := _, guard := _ }) (v := ?_) rfl (by kernel_rfl) (by kernel_rfl) (by kernel_rfl) (fun _ _ _ h => h) (Or.inl ⟨by rfl, ?_⟩) (by assumption) ?_
    rotate_left 1
    · intro v hSv
      clear hSv
      go_simp
      try with_reducible rfl
    try simp only [Act.put, List.setIfInBounds_toArray, List.set_cons_zero, List.set_cons_succ]
    refine wpAnyH_take (i := 3) (oi := { dst := some 13, op := .load _ (.tmp 12), type := _, pos := _, after := _, guard := _ }) (v := ?_) rfl (by kernel_rfl) (by kernel_rfl) (by kernel_rfl) (fun _ _ _ h => h) (Or.inl ⟨by rfl, ?_⟩) (by assumption) ?_
    rotate_left 1
    · intro v hSv
      have hv1 := L1.out v hSv
      clear hSv
      go_simp
      try with_reducible rfl
    try simp only [Act.put, List.setIfInBounds_toArray, List.set_cons_zero, List.set_cons_succ]
    refine wpAnyH_take (i := 4) (oi := { dst := some 14, op := .move (.tmp 0), type := _, pos := _, after := _, guard := _ }) (v := ?_) rfl (by kernel_rfl) (by kernel_rfl) (by kernel_rfl) (fun _ _ _ h => h) (Or.inl ⟨by rfl, ?_⟩) (by assumption) ?_
    rotate_left 1
    · intro v hSv
      clear hSv
      go_simp
      try with_reducible rfl
    try simp only [Act.put, List.setIfInBounds_toArray, List.set_cons_zero, List.set_cons_succ]
    refine wpAnyH_take (i := 5) (oi := { dst := some 15, op := .slice _ (.tmp 14) (some (.const (.int .i64 33))) none none, type := _, pos := _, after := _, guard := _ }) (v := ?_) rfl (by kernel_rfl) (by kernel_rfl) (by kernel_rfl) (fun _ _ _ h => h) (Or.inl ⟨by rfl, ?_⟩) (by assumption) ?_
    rotate_left 1
    · intro v hSv
      clear hSv
      go_simp
      try with_reducible rfl
    try simp only [Act.put, List.setIfInBounds_toArray, List.set_cons_zero, List.set_cons_succ]
    refine wpAnyH_take (i := 6) (oi := { dst := some 16, op := .sliceToArrayPointer _ (.tmp 15), type := _, pos := _, after := _, guard := _ }) (v := ?_) rfl (by kernel_rfl) (by kernel_rfl) (by kernel_rfl) (fun _ _ _ h => h) (Or.inl ⟨by rfl, ?_⟩) (by assumption) ?_
    rotate_left 1
    · intro v hSv
      clear hSv
      go_simp
      try with_reducible rfl
    try simp only [Act.put, List.setIfInBounds_toArray, List.set_cons_zero, List.set_cons_succ]
    refine wpAnyH_take (i := 7) (oi := { dst := some 17, op := .load _ (.tmp 16), type := _, pos := _, after := _, guard := _ }) (v := ?_) rfl (by kernel_rfl) (by kernel_rfl) (by kernel_rfl) (fun _ _ _ h => h) (Or.inl ⟨by rfl, ?_⟩) (by assumption) ?_
    rotate_left 1
    · intro v hSv
      have hv1 := L2.out v hSv
      clear hSv
      go_simp
      try with_reducible rfl
    try simp only [Act.put, List.setIfInBounds_toArray, List.set_cons_zero, List.set_cons_succ]
    refine wpAnyH_ready (rs := [8]) (by kernel_rfl) (by simp) ?_
    refine AllReadyH.cons (o := { dst := none, op := .store _ (.tmp 2) (.tmp 13), type := _, pos := _, after := _, guard := _ }) rfl (fun K hK => ?_) AllReadyH.nil
    have h0 : X.drew.heap[w.heap.size]? = some (.cells (bA z26) 31 (0, 0)) := HR0.out
    have h1 : X.drew.heap[w.heap.size + 1]? = some (.cells (bA z26) 31 (0, 0)) := HR1.out
    have st1 : stA 31 X.drew (.pointer (some ⟨w.heap.size, 0, none⟩)) (.agg (bA p)) = .ok .skip (X.drew.setRow w.heap.size (bA p)) := stA_row h0 (by rw [bA_size, HP1.out]; exact info26) (by rw [bA_size, bA_size, HP1.out]; rfl) (bA_one _)
    have G0 := Lib.hid (setRow_heap X.drew w.heap.size _ (bA p) 31 (0, 0) h0)
    have G1 : Hid ((X.drew.setRow w.heap.size (bA p)).heap[w.heap.size + 1]? = some (.cells (bA z26) 31 (0, 0))) := by show _ = _; rw [setRow_other _ _ _ _ (by omega)]; exact h1
    clear h0 h1
    go_simp
    refine hK.out _ _ ((hb0).trans ((Keep.row X.drew w.heap.size _).mono fun i hi => .inl hi)) (fun hHeld => ?_)
    clear hK K
    try simp only [Act.put, List.setIfInBounds_toArray, List.set_cons_zero, List.set_cons_succ]
    refine wpAnyH_ready (rs := [9]) (by kernel_rfl) (by simp) ?_
    refine AllReadyH.cons (o := { dst := none, op := .store _ (.tmp 3) (.tmp 17), type := _, pos := _, after := _, guard := _ }) rfl (fun K hK => ?_) AllReadyH.nil
    clear st1
    have st2 : stA 31 (X.drew.setRow w.heap.size (bA p)) (.pointer (some ⟨w.heap.size + 1, 0, none⟩)) (.agg (bA q)) = .ok .skip ((X.drew.setRow w.heap.size (bA p)).setRow (w.heap.size + 1) (bA q)) := stA_row G1.out (by rw [bA_size, HP2.out]; exact info26) (by rw [bA_size, bA_size, HP2.out]; rfl) (bA_one _)
    have F1 := Lib.hid (setRow_heap (X.drew.setRow w.heap.size (bA p)) (w.heap.size + 1) _ (bA q) 31 (0, 0) G1.out)
    have F0 : Hid (((X.drew.setRow w.heap.size (bA p)).setRow (w.heap.size + 1) (bA q)).heap[w.heap.size]? = some (.cells (bA p) 31 (0, 0))) := by show _ = _; rw [setRow_other _ _ _ _ (by omega)]; exact G0.out
    go_simp
    refine hK.out _ _ (((hb0).trans ((Keep.row X.drew w.heap.size _).mono fun i hi => .inl hi)).trans ((Keep.row (X.drew.setRow w.heap.size (bA p)) (w.heap.size + 1) _).mono fun i hi => .inr hi)) (fun hHeld => ?_)
    clear hK K
    try simp only [Act.put, List.setIfInBounds_toArray, List.set_cons_zero, List.set_cons_succ]
    refine wpAnyH_take (i := 10) (oi := { dst := some 4, op := .assign (.const (.bool true)), type := _, pos := _, after := _, guard := _ }) (v := ?_) rfl (by kernel_rfl) (by kernel_rfl) (by kernel_rfl) (fun _ _ _ h => h) (Or.inl ⟨by rfl, ?_⟩) (by assumption) ?_
    rotate_left 1
    · intro v hSv
      clear hSv
      go_simp
      try with_reducible rfl
    try simp only [Act.put, List.setIfInBounds_toArray, List.set_cons_zero, List.set_cons_succ]
    refine wpAnyH_done (by kernel_rfl) ?_ _
    go_wp2_with fail
    refine bodyPost_ret (v := .tuple #[.agg (bA p), .agg (bA q), .bool true]) ?_ rfl ⟨rfl, HB0.out.trans (((((hb0).trans ((Keep.row X.drew w.heap.size _).mono fun i hi => .inl hi)).trans ((Keep.row (X.drew.setRow w.heap.size (bA p)) (w.heap.size + 1) _).mono fun i hi => .inr hi))).below HB0.out.size fun i hi => by omega)⟩
    exact results_two_rows_tmp Tryd.results11 _ _ w.heap.size (w.heap.size + 1) _ _ _ rfl rfl rfl (varDig F0.out HP1.out) (varDig F1.out HP2.out)
  · obtain ⟨K, hK⟩ : ∃ K, K = kindL l := ⟨_, rfl⟩
    rw [if_neg hk, if_neg hk, decide_eq_false hk]
    rw [← hK] at HK hk
    have d0 : (K != 1) = true := by rw [bne_iff_ne]; exact hk
    have z := fun w => (show bldA 31 w #[] = .ok (.value (.agg (bA z26))) w by kernel_rfl)
    have s1 := fun w o => stA_old (t := 31) w o (bA z26) (bA z26) (by rw [bA_size]; exact info26) (by rw [bA_size]) (bA_one _)
    have s2 := fun w o => stA_two (t := 31) w o (bA z26) (bA z26) (by rw [bA_size]; exact info26) (by rw [bA_size]) (bA_one _)
    rw [hX] at HK
    clear hK hk hA hb0 hX r0 r1
    go_enter Tryd.func11, Tryd.ntmps11
    go_wp2_with fail
    refine HK.out.mono ?_
    rintro e w2 ⟨rfl, rfl⟩
    go_wp2_with fail
    rw [← HX.out]
    refine bodyPost_ret (v := .tuple #[.agg (bA z26), .agg (bA z26), .bool false]) ?_ rfl ⟨rfl, HB0.out⟩
    exact results_two_rows_tmp Tryd.results11 _ _ w.heap.size (w.heap.size + 1) _ _ _ rfl rfl rfl (varDig HR0.out rfl) (varDig HR1.out rfl)
end Go.Proofs.YtffgeoeoodogiaaDoor
