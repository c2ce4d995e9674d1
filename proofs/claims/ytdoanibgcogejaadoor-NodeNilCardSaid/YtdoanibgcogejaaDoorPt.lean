/- The program's LeafOf, as it landed (its region by program: gen-tpl6-plo.py). -/
import Derived.Test.YtdoanibgcogejaaDoorPs
import Derived.Test.YtdoanibgcogejaaDoorDn
namespace Go.Proofs.YtdoanibgcogejaaDoor
open Go.RowKit

/-- What the program's LeafOf keeps. -/
def LeafOfC : Prop := ∀ (b : Nat) (n : Int) (m : Nat) (k : List UInt8) (A : Option Addr) (c : Nat) (l : List UInt8) (w : World), Hs w b n m → m ≤ 1000000 → k.length = 32 → BA w A l → l.length ≤ c → l.length ≤ 1000 → Vars w →
  Calls Tryd.prog 37 #[ptr b, .agg (bA k), .slice A l.length c] w fun e w' => e = .returned (.agg (bA (k ++ digL n (valL l)))) ∧ Hs w' b n (m + 1) ∧ Keep (fun i => i = b) w w'
set_option maxHeartbeats 8000000 in
set_option maxRecDepth 100000 in
theorem leafof_c : LeafOfC := fun b n m k A c l W hh hm hk hA hc hl hv => by
  obtain ⟨g, hg⟩ : ∃ g, g = digL n (valL l) := ⟨_, rfl⟩
  have hgl : g.length = 32 := by rw [hg]; exact dig_len _ _
  have HG := Lib.hid hg
  have bl := bldLeaf k g hk hgl
  have HKG : Hid ((k ++ g).length = 64) := by show _ = _; rw [List.length_append, hk, hgl]
  rw [← hg]
  obtain ⟨X, hX⟩ : ∃ X, X = (W.alloc (.cells (bA k) 36)).alloc (.cells (bA z64) 44) := ⟨_, rfl⟩
  have HX := Lib.hid hX
  have hb : Below W.heap.size W X := by rw [hX]; exact ((Below.refl _ _).alloc (Nat.le_refl _) _).alloc (by simp) _
  have k0 : RowB X W.heap.size 36 k := by rw [hX]; exact heap_alloc2_old W _ _
  have r0 : RowB X (W.heap.size + 1) 44 z64 := by rw [hX]; exact heap_alloc2_new W _ _
  have hbl : b < W.heap.size := lt_of_heap hh
  have hvs := hh.vars hv
  have hvl := val_len l
  have LK : Hid (∀ w', Keep (fun i => i = b ∨ i = W.heap.size + 1) X w' → ldA 36 w' (.pointer (some ⟨W.heap.size, 0, none⟩)) = .ok (.value (.agg (bA k))) w') := fun w' h => (k0.keep h (by omega)).ldKey hk
  have HX0 : Hid (∀ w', Keep (fun i => i = b ∨ i = W.heap.size + 1) X w' → Keep (fun i => i = b) W w') := fun w' h => ⟨h.os.trans hb.os, h.tape.trans hb.tape, h.output.trans hb.output, Nat.le_trans hb.size h.size, fun i hi hl => (h.block i (Nat.lt_of_lt_of_le hi hb.size) (by omega)).trans (hb.block i hi)⟩
  have HBA : Hid (∀ w', Keep (fun i => i = b ∨ i = W.heap.size + 1) X w' → BA w' A l) := fun w' h => hh.ba hA (HX0.out w' h)
  have HVV : Hid (∀ w', Keep (fun i => i = b ∨ i = W.heap.size + 1) X w' → Vars w') := fun w' h => hv.keep (HX0.out w' h) (fun e => hvs.1 e.symm) (fun e => hvs.2 e.symm)
  have HV := Lib.hid (fun w h => pval_c A c l w h hc hl)
  have HRW : Hid (RowB X.drew (W.heap.size + 1) 44 z64) := r0
  have HH : Hid (Hs X.drew b n m) := hh.keep (Keep.of_below (L := fun _ => False) hb.drew) fun h => h
  clear hg hk hA hX hb k0 r0 hgl hvs hh hv
  unfold ptr
  go_enter Tryd.func37, Tryd.ntmps37
  go_wp2_with fail
  rw [← HX.out]
  clear HX
  refine wp_region_held_drew (S := fun w' => Keep (fun i => i = b ∨ i = W.heap.size + 1) X w') (by kernel_rfl) ((Keep.refl _ _).drew) (fun hHeld => ?_)
  have hb0 : Keep (fun i => i = b ∨ i = W.heap.size + 1) X X.drew := (Keep.refl _ _).drew
  refine wpAnyH_take (i := 0) (oi := { dst := some 7, op := .load _ (.tmp 4), type := _, pos := _, after := _, guard := _ }) (v := ?_) rfl (by kernel_rfl) (by kernel_rfl) (by kernel_rfl) (fun _ _ _ h => h) (Or.inl ⟨by rfl, ?_⟩) (by assumption) ?_
  rotate_left 1
  · intro v hSv
    have hv1 := LK.out v hSv
    clear hSv
    go_simp
    try with_reducible rfl
  try simp only [Act.put, List.setIfInBounds_toArray, List.set_cons_zero, List.set_cons_succ]
  refine wpAnyH_take (i := 1) (oi := { dst := some 8, op := .move (.tmp 0), type := _, pos := _, after := _, guard := _ }) (v := ?_) rfl (by kernel_rfl) (by kernel_rfl) (by kernel_rfl) (fun _ _ _ h => h) (Or.inl ⟨by rfl, ?_⟩) (by assumption) ?_
  rotate_left 1
  · intro v hSv
    clear hSv
    go_simp
    try with_reducible rfl
  try simp only [Act.put, List.setIfInBounds_toArray, List.set_cons_zero, List.set_cons_succ]
  refine wpAnyH_take (i := 2) (oi := { dst := some 9, op := .move (.tmp 2), type := _, pos := _, after := _, guard := _ }) (v := ?_) rfl (by kernel_rfl) (by kernel_rfl) (by kernel_rfl) (fun _ _ _ h => h) (Or.inl ⟨by rfl, ?_⟩) (by assumption) ?_
  rotate_left 1
  · intro v hSv
    clear hSv
    go_simp
    try with_reducible rfl
  try simp only [Act.put, List.setIfInBounds_toArray, List.set_cons_zero, List.set_cons_succ]
  refine wpAnyH_ready (rs := [3]) (by kernel_rfl) (by simp) ?_
  refine AllReadyH.cons (o := { dst := some 10, op := .call _, type := _, pos := _, after := _, guard := _ }) rfl (fun K hK => ?_) AllReadyH.nil
  go_simp
  refine (HV.out _ (HBA.out _ (hb0))).mono ?_
  rintro e y1 ⟨A1, c1, rfl, hn1, hc1, hA1, hb⟩
  have hb1 : Keep (fun i => i = b ∨ i = W.heap.size + 1) X y1 := (hb0).trans (Keep.of_below hb)
  have HRW := Lib.hid (HRW.out.below hb)
  have HH1 := Lib.hid (HH.out.keep (Keep.of_below (L := fun _ => False) hb) fun h => h)
  rw [← hn1]
  clear hb
  go_wp2_with fail
  refine hK.out _ _ (hb1) (fun hHeld => ?_)
  clear hK K
  try simp only [Act.put, List.setIfInBounds_toArray, List.set_cons_zero, List.set_cons_succ]
  refine wpAnyH_ready (rs := [4]) (by kernel_rfl) (by simp) ?_
  refine AllReadyH.cons (o := { dst := some 11, op := .call _, type := _, pos := _, after := _, guard := _ }) rfl (fun K hK => ?_) AllReadyH.nil
  go_simp
  refine (sum_hs b n m A1 (valL l) c1 y1 HH1.out (by omega) hA1 (by omega) (by omega) (HVV.out _ hb1)).mono ?_
  rintro e y2 ⟨rfl, hh2, hb⟩
  have hb2 : Keep (fun i => i = b ∨ i = W.heap.size + 1) X y2 := (hb1).trans (hb.mono fun i hi => .inl hi)
  have HRW := Lib.hid (HRW.out.keep hb (by omega))
  have HHF : Hid (Hs (y2.setRow (W.heap.size + 1) (bA (k ++ g))) b n (m + 1)) := by
    show Hs _ _ _ _
    unfold Hs
    rw [setRow_other _ _ _ _ (by omega)]
    exact hh2
  clear hh2
  rw [← HG.out]
  clear hb
  go_wp2_with fail
  refine hK.out _ _ (hb2) (fun hHeld => ?_)
  clear hK K
  try simp only [Act.put, List.setIfInBounds_toArray, List.set_cons_zero, List.set_cons_succ]
  refine wpAnyH_take (i := 5) (oi := { dst := some 12, op := .build _ #[(0, .tmp 7), (1, .tmp 11)], type := _, pos := _, after := _, guard := _ }) (v := ?_) rfl (by kernel_rfl) (by kernel_rfl) (by kernel_rfl) (fun _ _ _ h => h) (Or.inl ⟨by rfl, ?_⟩) (by assumption) ?_
  rotate_left 1
  · intro v hSv
    have hv1 := bl v
    clear hSv
    go_simp
    try with_reducible rfl
  try simp only [Act.put, List.setIfInBounds_toArray, List.set_cons_zero, List.set_cons_succ]
  refine wpAnyH_ready (rs := [6]) (by kernel_rfl) (by simp) ?_
  refine AllReadyH.cons (o := { dst := none, op := .store _ (.tmp 6) (.tmp 12), type := _, pos := _, after := _, guard := _ }) rfl (fun K hK => ?_) AllReadyH.nil
  have st1 : stA 44 y2 (.pointer (some ⟨W.heap.size + 1, 0, none⟩)) (.agg (bA (k ++ g))) = .ok .skip (y2.setRow (W.heap.size + 1) (bA (k ++ g))) := stA_row HRW.out (by rw [bA_size, HKG.out]; exact infoLeaf) (by rw [bA_size, bA_size, HKG.out]; rfl) (bA_one _)
  have HM := Lib.hid (setRow_heap y2 (W.heap.size + 1) _ (bA (k ++ g)) _ _ HRW.out)
  go_simp
  refine hK.out _ _ ((hb2).trans ((Keep.row y2 (W.heap.size + 1) _).mono fun i hi => .inr hi)) (fun hHeld => ?_)
  clear hK K
  try simp only [Act.put, List.setIfInBounds_toArray, List.set_cons_zero, List.set_cons_succ]
  refine wpAnyH_done (by kernel_rfl) ?_ _
  go_wp2_with fail
  refine bodyPost_ret (v := .agg (bA (k ++ g))) ?_ rfl ⟨rfl, HHF.out, HX0.out _ (((hb2).trans ((Keep.row y2 (W.heap.size + 1) _).mono fun i hi => .inr hi)))⟩
  exact results_cell_row Tryd.results37 _ _ (W.heap.size + 1) 44 _ (0, 0) _ rfl HM.out Tryd.underlying44 rfl (by rw [bA_size, HKG.out]; exact infoLeaf)
end Go.Proofs.YtdoanibgcogejaaDoor
