/- The function of ProofProves returns true, over contracts (by program: gen-tpl15-proves.py). -/
import Derived.Test.YtfeabjcnfgcmkaaGreatDoorAm
import Derived.Test.YtfeabjcnfgcmkaaGreatDoorAi
import Derived.Test.YtfeabjcnfgcmkaaGreatDoorMT
namespace Go.Proofs.YtfeabjcnfgcmkaaGreatDoor
open Go.RowKit

set_option linter.unusedSimpArgs false in
set_option maxHeartbeats 8000000 in
set_option maxRecDepth 100000 in
theorem proves15_in {M : World → Int → Tv → Prop} (nd : NdV M) (pv : PtV M) (pf : PfV M) (n : Int) (A : Option Addr) (c : Nat) (es : List En) (k : List UInt8) (hk : k.length = 32) (W : World) (hA : EA W A es) (hl : es.length ≤ 12) (hvl : ∀ e ∈ es, e.v.length ≤ 1000) (hf : fewK (es.map En.ent) = true) (hvx : Vars W) (h0 : 0 ≤ n) (h1 : n ≤ 256) :
    Calls Tryz.prog 3 #[.int .i64 n, .slice A es.length c, .agg (bA k)] W (Aye W) := by
  obtain ⟨X, hX⟩ : ∃ X, X = W.alloc (.cells (bA k) 24) := ⟨_, rfl⟩
  have hb0 : Below W.heap.size W X := by rw [hX]; exact Bt.one_below _ _
  have HR0 : Hid (RowB X W.heap.size 24 k) := by show RowB _ _ _ _; rw [hX]; exact RowB.alloc W k _
  have HX := Lib.hid hX
  have HB0 := Lib.hid hb0
  have HT := Lib.hid (tree_in nd n A c es X (hA.below hb0) hl hvl hf (hvx.below hb0) h0 h1)
  have HVE : Hid (∀ e ∈ ofE es, e.v.length ≤ 1000) := fun e he => hvl e (ofE_mem he)
  have HLE : Hid ((ofE es).length ≤ 100000) := Nat.le_trans (ofE_len es) (Nat.le_trans hl (by decide))
  have HN := Lib.hid (And.intro h0 h1)
  have HVX := Lib.hid (hvx.below hb0)
  clear hA hvl hf hvx hX hb0 h0 h1
  go_enter Tryz.func3, Tryz.ntmps3
  go_wp2_with fail
  rw [← HX.out]
  clear HX
  refine HT.out.mono ?_
  rintro _ w2 ⟨A2, c2, T, rfl, hc2, hI, hF⟩
  have HI := Lib.hid hI
  have HF2 := Lib.hid hF
  obtain ⟨O, hO⟩ : ∃ O, O = ofE es := ⟨_, rfl⟩
  rw [← hO] at HI HF2 HVE HLE ⊢
  clear hc2 hI hF HT hO
  have HHI := Lib.hid (hash_in n w2 HN.out.1 HN.out.2)
  go_wp2_with fail
  refine HHI.out.mono ?_
  rintro _ w3 ⟨b, rfl, hbn, hH, hB⟩
  have HF3 := Lib.hid (HF2.out.below nd hB)
  have HH3 := Lib.hid hH
  have HXB : Hid (X.heap.size ≤ b) := Nat.le_trans HF2.out.bel.size hbn
  have LK : Hid (∀ w', Below X.heap.size X w' → ldA 24 w' (.pointer (some ⟨W.heap.size, 0, none⟩)) = .ok (.value (.agg (bA k))) w') := fun w' h => (HR0.out.below h).ldKey hk
  have HAL : Hid (∀ w, Below X.heap.size X w → Calls Tryz.prog 8 #[] w fun e w' => e = .returned (.bool true) ∧ Below w.heap.size w w') := fun w h => alive15_c nd pv pf _ (HVX.out.below h)
  have HEQ : Hid (∀ (D : Nat) (w : World) (A5 A9 : Option Addr) (c5 c9 : Nat), T.dep k 0 = D → DS w A5 (prK n (O.map En.ent) k (T.dep k 0)).sib → DS w A9 (prK n (O.map En.ent) k D).sib →
      Calls Tryz.prog 9 #[.agg (pfC (prK n (O.map En.ent) k (T.dep k 0)) (.slice A5 (prK n (O.map En.ent) k (T.dep k 0)).sib.length c5)), .agg (pfC (prK n (O.map En.ent) k D) (.slice A9 (prK n (O.map En.ent) k D).sib.length c9))] w fun e w' => e = .returned (.bool true) ∧ Below w.heap.size w w') := fun D w A5 A9 c5 c9 e h5 h9 => by
    subst e
    have hle : (prK n (O.map En.ent) k (T.dep k 0)).sib.length ≤ 1000000 := by
      show (sibS n (O.map En.ent) k (T.dep k 0)).length ≤ 1000000
      rw [← depS_len]
      have := depS_le (O.map En.ent) k (T.dep k 0)
      have := dep_le HI.out.sep (HI.out.at k)
      omega
    have := requal_c _ _ (prK_ok HI.out.sep k) (prK_ok HI.out.sep k) A5 A9 c5 c9 w h5 h9 hle hle
    rwa [eqP_refl] at this
  clear hbn hH hB HHI HF2 HR0 HVX
  go_wp2_with fail
  refine wp_region_held_drew (S := fun w' => Below X.heap.size X w') (by kernel_rfl) (HF3.out.bel.drew) (fun hHeld => ?_)
  have HF3 := Lib.hid (HF3.out.below nd (Below.refl _ _).drew)
  have HH3 := Lib.hid (HH3.out.keep (Keep.of_below (L := fun _ => False) (Below.refl _ _).drew) id)
  have hb0 : Below X.heap.size X w3.drew := HF3.out.bel
  refine wpAnyH_ready (rs := [0]) (by kernel_rfl) (by simp) ?_
  refine AllReadyH.cons (o := { dst := some 23, op := .call _, type := _, pos := _, after := _, guard := _ }) rfl (fun K hK => ?_) AllReadyH.nil
  go_simp
  refine (HAL.out _ (hb0)).mono ?_
  rintro e y1 ⟨rfl, hb⟩
  have hb1 : Below X.heap.size X y1 := keeps (hb0) hb
  have HF4 := Lib.hid (HF3.out.below nd hb)
  have HH4 := Lib.hid (HH3.out.keep (Keep.of_below (L := fun _ => False) hb) id)
  clear HF3 HH3
  clear hb
  go_wp2_with fail
  refine hK.out _ _ (hb1) (fun hHeld => ?_)
  clear hK K
  try simp only [Act.put, List.setIfInBounds_toArray, List.set_cons_zero, List.set_cons_succ]
  refine wpAnyH_take (i := 1) (oi := { dst := some 24, op := .move (.tmp 23), type := _, pos := _, after := _, guard := _ }) (v := ?_) rfl (by kernel_rfl) (by kernel_rfl) (by kernel_rfl) (fun _ _ _ h => h) (Or.inl ⟨by rfl, ?_⟩) (by assumption) ?_
  rotate_left 1
  · intro v hSv
    clear hSv
    go_simp
    try with_reducible rfl
  try simp only [Act.put, List.setIfInBounds_toArray, List.set_cons_zero, List.set_cons_succ]
  refine wpAnyH_take (i := 2) (oi := { dst := some 25, op := .move (.tmp 10), type := _, pos := _, after := _, guard := _ }) (v := ?_) rfl (by kernel_rfl) (by kernel_rfl) (by kernel_rfl) (fun _ _ _ h => h) (Or.inl ⟨by rfl, ?_⟩) (by assumption) ?_
  rotate_left 1
  · intro v hSv
    clear hSv
    go_simp
    try with_reducible rfl
  try simp only [Act.put, List.setIfInBounds_toArray, List.set_cons_zero, List.set_cons_succ]
  refine wpAnyH_take (i := 3) (oi := { dst := some 26, op := .move (.tmp 8), type := _, pos := _, after := _, guard := _ }) (v := ?_) rfl (by kernel_rfl) (by kernel_rfl) (by kernel_rfl) (fun _ _ _ h => h) (Or.inl ⟨by rfl, ?_⟩) (by assumption) ?_
  rotate_left 1
  · intro v hSv
    clear hSv
    go_simp
    try with_reducible rfl
  try simp only [Act.put, List.setIfInBounds_toArray, List.set_cons_zero, List.set_cons_succ]
  refine wpAnyH_take (i := 4) (oi := { dst := some 27, op := .load _ (.tmp 5), type := _, pos := _, after := _, guard := _ }) (v := ?_) rfl (by kernel_rfl) (by kernel_rfl) (by kernel_rfl) (fun _ _ _ h => h) (Or.inl ⟨by rfl, ?_⟩) (by assumption) ?_
  rotate_left 1
  · intro v hSv
    have hv1 := LK.out v hSv
    clear hSv
    go_simp
    try with_reducible rfl
  try simp only [Act.put, List.setIfInBounds_toArray, List.set_cons_zero, List.set_cons_succ]
  refine wpAnyH_take (i := 6) (oi := { dst := some 29, op := .move (.tmp 0), type := _, pos := _, after := _, guard := _ }) (v := ?_) rfl (by kernel_rfl) (by kernel_rfl) (by kernel_rfl) (fun _ _ _ h => h) (Or.inl ⟨by rfl, ?_⟩) (by assumption) ?_
  rotate_left 1
  · intro v hSv
    clear hSv
    go_simp
    try with_reducible rfl
  try simp only [Act.put, List.setIfInBounds_toArray, List.set_cons_zero, List.set_cons_succ]
  refine wpAnyH_take (i := 7) (oi := { dst := some 30, op := .move (.tmp 7), type := _, pos := _, after := _, guard := _ }) (v := ?_) rfl (by kernel_rfl) (by kernel_rfl) (by kernel_rfl) (fun _ _ _ h => h) (Or.inl ⟨by rfl, ?_⟩) (by assumption) ?_
  rotate_left 1
  · intro v hSv
    clear hSv
    go_simp
    try with_reducible rfl
  try simp only [Act.put, List.setIfInBounds_toArray, List.set_cons_zero, List.set_cons_succ]
  refine wpAnyH_take (i := 8) (oi := { dst := some 31, op := .load _ (.tmp 5), type := _, pos := _, after := _, guard := _ }) (v := ?_) rfl (by kernel_rfl) (by kernel_rfl) (by kernel_rfl) (fun _ _ _ h => h) (Or.inl ⟨by rfl, ?_⟩) (by assumption) ?_
  rotate_left 1
  · intro v hSv
    have hv1 := LK.out v hSv
    clear hSv
    go_simp
    try with_reducible rfl
  try simp only [Act.put, List.setIfInBounds_toArray, List.set_cons_zero, List.set_cons_succ]
  refine wpAnyH_ready (rs := [5]) (by kernel_rfl) (by simp) ?_
  refine AllReadyH.cons (o := { dst := some 28, op := .call _, type := _, pos := _, after := _, guard := _ }) rfl (fun K hK => ?_) AllReadyH.nil
  go_simp
  refine (pf.prove _ b n 0 (O.map En.ent) T k HH4.out (by omega) HF4.out.vars HF4.out.ms HI.out hk).mono ?_
  rintro e y2 ⟨A5, c5, m5, rfl, hN, _, _, hb⟩
  have hb2 : Below X.heap.size X y2 := keep_new (hb1) HXB.out hb
  have HF5 := Lib.hid (HF4.out.hs nd HH4.out HXB.out hb)
  have HD5 := Lib.hid (hN.ds (prK_ok HI.out.sep k).sib)
  clear hN HF4 HH4
  clear hb
  go_wp2_with fail
  refine hK.out _ _ (hb2) (fun hHeld => ?_)
  clear hK K
  try simp only [Act.put, List.setIfInBounds_toArray, List.set_cons_zero, List.set_cons_succ]
  refine wpAnyH_ready (rs := [9]) (by kernel_rfl) (by simp) ?_
  refine AllReadyH.cons (o := { dst := some 32, op := .call _, type := _, pos := _, after := _, guard := _ }) rfl (fun K hK => ?_) AllReadyH.nil
  go_simp
  refine (rprove_c n A2 c2 O k _ HF5.out.ea HLE.out HVE.out hk HI.out.sep).mono ?_
  rintro e y3 ⟨D, A9, c9, rfl, hD9, hj, h1D, _, hb⟩
  have hb3 : Below X.heap.size X y3 := keeps (hb2) hb
  have HD9 := Lib.hid hD9
  have HD6 := Lib.hid (HD5.out.below hb)
  have HTD : Hid (T.dep k 0 = D) := dep_eq HI.out.sep (HI.out.at k) hj h1D
  have HDD := Lib.hid (dep_le HI.out.sep (HI.out.at k))
  clear hD9 hj h1D HD5
  clear hb
  go_wp2_with fail
  refine hK.out _ _ (hb3) (fun hHeld => ?_)
  clear hK K
  try simp only [Act.put, List.setIfInBounds_toArray, List.set_cons_zero, List.set_cons_succ]
  refine wpAnyH_ready (rs := [10]) (by kernel_rfl) (by simp) ?_
  refine AllReadyH.cons (o := { dst := some 33, op := .call _, type := _, pos := _, after := _, guard := _ }) rfl (fun K hK => ?_) AllReadyH.nil
  go_simp
  refine (HEQ.out D _ A5 A9 c5 c9 HTD.out HD6.out HD9.out).mono ?_
  rintro e y4 ⟨rfl, hb⟩
  have hb4 : Below X.heap.size X y4 := keeps (hb3) hb
  clear hb
  go_wp2_with fail
  refine hK.out _ _ (hb4) (fun hHeld => ?_)
  clear hK K
  try simp only [Act.put, List.setIfInBounds_toArray, List.set_cons_zero, List.set_cons_succ]
  refine wpAnyH_take (i := 11) (oi := { dst := some 34, op := .pick (.tmp 24) (.tmp 33) (.const (.bool false)), type := _, pos := _, after := _, guard := _ }) (v := ?_) rfl (by kernel_rfl) (by kernel_rfl) (by kernel_rfl) (fun _ _ _ h => h) (Or.inl ⟨by rfl, ?_⟩) (by assumption) ?_
  rotate_left 1
  · intro v hSv
    clear hSv
    go_simp
    try with_reducible rfl
  try simp only [Act.put, List.setIfInBounds_toArray, List.set_cons_zero, List.set_cons_succ]
  refine wpAnyH_take (i := 12) (oi := { dst := some 6, op := .assign (.tmp 34), type := _, pos := _, after := _, guard := _ }) (v := ?_) rfl (by kernel_rfl) (by kernel_rfl) (by kernel_rfl) (fun _ _ _ h => h) (Or.inl ⟨by rfl, ?_⟩) (by assumption) ?_
  rotate_left 1
  · intro v hSv
    clear hSv
    go_simp
    try with_reducible rfl
  try simp only [Act.put, List.setIfInBounds_toArray, List.set_cons_zero, List.set_cons_succ]
  refine wpAnyH_done (by kernel_rfl) ?_ _
  go_wp2_with fail
  go_ret
  exact ⟨rfl, keeps HB0.out ((hb4))⟩
set_option maxHeartbeats 8000000 in
set_option maxRecDepth 100000 in
theorem proves15_out {M : World → Int → Tv → Prop} (nd : NdV M) (pv : PtV M) (pf : PfV M) (n : Int) (A : Option Addr) (c : Nat) (es : List En) (k : List UInt8) (W : World) (hA : EA W A es) (hvx : Vars W) (h : (n < 0 ∨ 256 < n) ∨ fewK (es.map En.ent) = false) :
    Calls Tryz.prog 3 #[.int .i64 n, .slice A es.length c, .agg (bA k)] W (Aye W) := by
  obtain ⟨X, hX⟩ : ∃ X, X = W.alloc (.cells (bA k) 24) := ⟨_, rfl⟩
  have hb0 : Below W.heap.size W X := by rw [hX]; exact Bt.one_below _ _
  have HX := Lib.hid hX
  have HB0 := Lib.hid hb0
  have HVX := Lib.hid (hvx.below hb0)
  have HT := Lib.hid (tree_out n A c es X (hA.below hb0) h)
  have HAL := Lib.hid (fun w h => alive15_c nd pv pf w h)
  clear hA hvx h hX hb0
  go_enter Tryz.func3, Tryz.ntmps3
  go_wp2_with fail
  rw [← HX.out]
  clear HX
  refine HT.out.mono ?_
  rintro _ w2 ⟨rfl, hB⟩
  have HB := Lib.hid hB
  clear hB HT
  go_wp2_with fail
  refine (hash_any n w2).mono ?_
  rintro _ w3 ⟨q, rfl, hB3⟩
  have HB3 := Lib.hid (keeps HB.out hB3)
  clear hB3
  go_wp2_with fail
  refine (HAL.out w3 (HVX.out.below HB3.out)).mono ?_
  rintro _ w4 ⟨rfl, hB4⟩
  have HB4 := Lib.hid (keeps HB3.out hB4)
  clear hB4
  go_wp2_with fail
  go_ret
  exact ⟨rfl, keeps HB0.out HB4.out⟩
theorem proves15_w {M : World → Int → Tv → Prop} (nd : NdV M) (pv : PtV M) (pf : PfV M) (n : Int) (A : Option Addr) (c : Nat) (es : List En) (k : List UInt8) (hk : k.length = 32) (W : World) (hA : EA W A es) (hvx : Vars W) :
    Calls Tryz.prog 3 #[.int .i64 n, .slice A es.length c, .agg (bA k)] W (Aye W) := by
  rcases Classical.em ((n < 0 ∨ 256 < n) ∨ fewK (es.map En.ent) = false) with h | h
  · exact proves15_out nd pv pf n A c es k W hA hvx h
  · have hf : fewK (es.map En.ent) = true := by
      cases hq : fewK (es.map En.ent) with
      | true => rfl
      | false => exact absurd (.inr hq) h
    have hl := few_len hf
    rw [List.length_map] at hl
    exact proves15_in nd pv pf n A c es k hk W hA hl (fun e he => Nat.le_trans (few_val hf e.ent (List.mem_map.2 ⟨e, he, rfl⟩)) (by decide)) hf hvx (by omega) (by omega)
end Go.Proofs.YtfeabjcnfgcmkaaGreatDoor
