/- The function of ProofCopies returns true, over contracts (its drawn regions by program: gen-tpl15-copies.py). -/
import Derived.Test.YtfeabjcnfgcmkaaDoorAi
import Derived.Deep.RegionHeld
namespace Go.Proofs.YtfeabjcnfgcmkaaDoor
open Go.RowKit

theorem below_cell15 {B g j : Nat} {a w : World} {x : Value} (h : Below B a w) (hg : B ≤ g) : Below B a (w.setCell ⟨g, j, none⟩ x) :=
  ⟨h.os, h.tape, h.output, by simpa [World.setCell] using h.size, fun i hi => by rw [heap_setCell_other _ _ _ _ (show i ≠ g by omega)]; exact h.block i hi⟩
/-- A new row that is not empty has a block of its own. -/
theorem clone_row {w' : World} {B : Nat} {A : Option Addr} {c : Nat} {ds : List (List UInt8)} (hne : 0 < ds.length) (h : NewD w' B A c ds) :
    ∃ u, A = some ⟨u, 0, none⟩ ∧ B ≤ u ∧ u < w'.heap.size ∧ OwnD w' B (.slice (some ⟨u, 0, none⟩) ds.length c) ds := by
  rcases h.2 with rfl | h
  · exact absurd hne (by simp)
  · have h' := h
    obtain ⟨_, ⟨e, _⟩ | ⟨g, cap, cur, e, hg, hh, _⟩⟩ := h
    · injection e with e1 e2 e3; omega
    · cases e
      exact ⟨g, rfl, hg, lt_of_heap hh, h'⟩
/-- A byte of a row of the call's own written. -/
theorem OwnD.byte {w : World} {B g n cap : Nat} {ds : List (List UInt8)} (h : OwnD w B (.slice (some ⟨g, 0, none⟩) n cap) ds) (hd : ∀ s ∈ ds, s.length = 32) {j : Nat} {s : List UInt8} (hj : ds[j]? = some s) (x : UInt8) :
    DS (w.setCell ⟨g, j * 32, none⟩ (bv x)) (some ⟨g, 0, none⟩) (ds.set j (s.set 0 x)) := by
  obtain ⟨h0, ⟨e, _⟩ | ⟨g', cap', cur, e, hg, hh, hn, hc, hs, ht⟩⟩ := h
  · cases e
  · cases e
    have hset := heap_setCell_same w g (j * 32) cur 24 (bv x) hh
    have old : ∀ i k t v, ds[i]? = some k → (k.map bv)[t]? = some v → cur[i * 32 + t]? = some v := fun i k t v hi hv => by
      have h1 := flatD_at hd hi (j := t) (v := v) hv
      have hlt := (List.getElem?_eq_some_iff.1 h1).1
      rw [h0] at hlt
      rw [← Array.getElem?_toList, ← h1, ← ht, List.getElem?_take, if_pos hlt]
    have hjl : j < ds.length := (List.getElem?_eq_some_iff.1 hj).1
    have hsl := hd s (List.mem_of_getElem? hj)
    intro i k hi
    rw [List.getElem?_set] at hi
    by_cases e : j = i
    · subst e
      rw [if_pos rfl, if_pos hjl] at hi
      obtain rfl : s.set 0 x = k := Option.some.inj hi
      refine ⟨by rw [List.length_set]; exact hsl, g, 0, rfl, fun t v hv => ?_⟩
      rw [Nat.zero_add, cell_of_cells hset, Array.getElem?_setIfInBounds]
      have htl : t < 32 := by
        have := (List.getElem?_eq_some_iff.1 hv).1
        rwa [List.length_map, List.length_set, hsl] at this
      by_cases e0 : t = 0
      · subst e0
        have hsz : j * 32 < cur.size := by
          obtain ⟨y, hy⟩ : ∃ y, (s.map bv)[0]? = some y := ⟨_, List.getElem?_eq_getElem (by rw [List.length_map, hsl]; decide)⟩
          have := old j s 0 y hj hy
          exact (Array.getElem?_eq_some_iff.1 this).1
        rw [if_pos (show j * 32 = j * 32 + 0 by omega), if_pos hsz]
        rw [List.getElem?_map, List.getElem?_set, if_pos rfl, if_pos (by omega)] at hv
        exact hv
      · rw [if_neg (by omega)]
        rw [List.getElem?_map, List.getElem?_set, if_neg (by omega), ← List.getElem?_map] at hv
        exact old j s t v hj hv
    · rw [if_neg e] at hi
      refine ⟨hd k (List.mem_of_getElem? hi), g, 0, rfl, fun t v hv => ?_⟩
      have htl : t < 32 := by
        have := (List.getElem?_eq_some_iff.1 hv).1
        rwa [List.length_map, hd k (List.mem_of_getElem? hi)] at this
      rw [Nat.zero_add, cell_of_cells hset, Array.getElem?_setIfInBounds, if_neg (by omega)]
      exact old i k t v hi hv
theorem OwnD.cell0 {w : World} {B g n cap : Nat} {ds : List (List UInt8)} (h : OwnD w B (.slice (some ⟨g, 0, none⟩) n cap) ds) (hd : ∀ s ∈ ds, s.length = 32) {j : Nat} {s : List UInt8} (hj : ds[j]? = some s) {x : UInt8} (hx : s[0]? = some x) :
    w.cell? ⟨g, j * 32, none⟩ = some (bv x) ∧ w.frozen? ⟨g, j * 32, none⟩ = false := by
  obtain ⟨h0, ⟨e, _⟩ | ⟨g', cap', cur, e, hg, hh, hn, hc, hs, ht⟩⟩ := h
  · cases e
  · cases e
    have h1 := flatD_at hd hj (j := 0) (v := bv x) (by unfold dC; rw [List.getElem?_map, hx]; rfl)
    have hlt := (List.getElem?_eq_some_iff.1 h1).1
    rw [h0] at hlt
    refine ⟨?_, frozen_of_row w g _ _ _ hh⟩
    rw [cell_of_cells hh, ← Array.getElem?_toList, ← Nat.add_zero (j * 32), ← h1, ← ht, List.getElem?_take, if_pos hlt]
set_option linter.unusedSimpArgs false in
set_option maxHeartbeats 8000000 in
set_option maxRecDepth 100000 in
theorem copies15_few {M : World → Int → Tv → Prop} (nd : NdV M) (pv : PtV M) (pf : PfV M) (p : Pf) (A : Option Addr) (c : Nat) (i : Int) (W : World) (hp : p.Ok) (hA : DS W A p.sib) (hc : p.sib.length ≤ c) (hvx : Vars W) (hl : p.sib.length ≤ 4398046511104) (h : 300 < p.sib.length ∨ p.sib.length = 0) :
    Calls Tryd.prog 5 #[.agg (pfC p (.slice A p.sib.length c)), .int .u8 i] W (Aye W) := by
  obtain ⟨X, hX⟩ : ∃ X, X = W.alloc (.cells (pfC p (.slice A p.sib.length c)) 29) := ⟨_, rfl⟩
  have hB : Below W.heap.size W X := by rw [hX]; exact Bt.one_below _ _
  have hP : PfAt X W.heap.size p (.slice A p.sib.length c) := by rw [hX]; exact PfAt.one _ _ _
  have hS := hP.sib hp
  rw [hX] at hS
  have HB := Lib.hid hB
  have HX := Lib.hid hX
  have HPO := Lib.hid hp
  have HAL : Hid (∀ w, Below X.heap.size X w → Calls Tryd.prog 6 #[] w fun e w' => e = .returned (.bool true) ∧ Below w.heap.size w w') := fun w h => alive15_c nd pv pf _ ((hvx.below hB).below h)
  have HCL : Hid (∀ w, Below X.heap.size X w → Calls Tryd.prog 12 #[.agg (pfC p (.slice A p.sib.length c))] w fun e w' => ∃ A' c', e = .returned (.agg (pfC p (.slice A' p.sib.length c'))) ∧ NewD w' w.heap.size A' c' p.sib ∧ Below w.heap.size w w') := fun w h => pf.clone w p A c hp ((hA.below hB).below h) hc hl
  have HEQ : Hid (∀ w, Below X.heap.size X w → ∀ A' c', DS w A' p.sib → p.sib.length ≤ c' → Calls Tryd.prog 11 #[.agg (pfC p (.slice A p.sib.length c)), .agg (pfC p (.slice A' p.sib.length c'))] w fun e w' => e = .returned (.bool true) ∧ Below w.heap.size w w') := fun w h A' c' h1 h2 => by
    have := pf.equal w p p A A' c c' hp hp ((hA.below hB).below h) h1 hc h2 hl hl
    rwa [eqP_refl] at this
  have LD : Hid (∀ v, Below X.heap.size X v → ldA 29 v (.pointer (some ⟨W.heap.size, 0, none⟩)) = .ok (.value (.agg (pfC p (.slice A p.sib.length c)))) v) := fun v h => (hP.below h hP.lt).ld hp
  have d1 : decide ((300 : Int) < p.sib.length) = true ∨ (decide ((300 : Int) < p.sib.length) = false ∧ ((p.sib.length : Int) == 0) = true) := by
    by_cases h1 : 300 < p.sib.length
    · exact .inl (by simp; omega)
    · exact .inr ⟨by simp; omega, by rw [show p.sib.length = 0 by omega]; rfl⟩
  clear hB hP hp hX hA hc hl h
  rcases d1 with d1 | ⟨d1, d2⟩
  · go_enter Tryd.func5, Tryd.ntmps5
    go_wp2_with fail
    rw [← HX.out]
    clear HX hS
    clear d1
    refine wp_region_held_drew (S := fun w' => Below X.heap.size X w') (by kernel_rfl) ((Below.refl _ _).drew) (fun hHeld => ?_)
    have hb0 : Below X.heap.size X X.drew := (Below.refl _ _).drew
    refine wpAnyH_ready (rs := [0]) (by kernel_rfl) (by simp) ?_
    refine AllReadyH.cons (o := { dst := some 18, op := .call _, type := _, pos := _, after := _, guard := _ }) rfl (fun K hK => ?_) AllReadyH.nil
    go_simp
    refine (HAL.out _ (hb0)).mono ?_
    rintro e y1 ⟨rfl, hb⟩
    have hb1 : Below X.heap.size X y1 := keeps (hb0) hb
    clear hb
    go_wp2_with fail
    refine hK.out _ _ (hb1) (fun hHeld => ?_)
    clear hK K
    try simp only [Act.put, List.setIfInBounds_toArray, List.set_cons_zero, List.set_cons_succ]
    refine wpAnyH_take (i := 1) (oi := { dst := some 19, op := .move (.tmp 18), type := _, pos := _, after := _, guard := _ }) (v := ?_) rfl (by kernel_rfl) (by kernel_rfl) (by kernel_rfl) (fun _ _ _ h => h) (Or.inl ⟨by rfl, ?_⟩) (by assumption) ?_
    rotate_left 1
    · intro v hSv
      clear hSv
      go_simp
      try with_reducible rfl
    try simp only [Act.put, List.setIfInBounds_toArray, List.set_cons_zero, List.set_cons_succ]
    refine wpAnyH_take (i := 2) (oi := { dst := some 20, op := .load _ (.tmp 2), type := _, pos := _, after := _, guard := _ }) (v := ?_) rfl (by kernel_rfl) (by kernel_rfl) (by kernel_rfl) (fun _ _ _ h => h) (Or.inl ⟨by rfl, ?_⟩) (by assumption) ?_
    rotate_left 1
    · intro v hSv
      have hv1 := LD.out v hSv
      clear hSv
      go_simp
      try with_reducible rfl
    try simp only [Act.put, List.setIfInBounds_toArray, List.set_cons_zero, List.set_cons_succ]
    refine wpAnyH_take (i := 3) (oi := { dst := some 21, op := .load _ (.tmp 2), type := _, pos := _, after := _, guard := _ }) (v := ?_) rfl (by kernel_rfl) (by kernel_rfl) (by kernel_rfl) (fun _ _ _ h => h) (Or.inl ⟨by rfl, ?_⟩) (by assumption) ?_
    rotate_left 1
    · intro v hSv
      have hv1 := LD.out v hSv
      clear hSv
      go_simp
      try with_reducible rfl
    try simp only [Act.put, List.setIfInBounds_toArray, List.set_cons_zero, List.set_cons_succ]
    refine wpAnyH_ready (rs := [4]) (by kernel_rfl) (by simp) ?_
    refine AllReadyH.cons (o := { dst := some 22, op := .call _, type := _, pos := _, after := _, guard := _ }) rfl (fun K hK => ?_) AllReadyH.nil
    go_simp
    refine (HCL.out _ (hb1)).mono ?_
    rintro e y2 ⟨A2, c2, rfl, hN2, hb⟩
    have hb2 : Below X.heap.size X y2 := keeps (hb1) hb
    have HF2 := Lib.hid (hN2.ds HPO.out.sib)
    have HCC2 := Lib.hid hN2.1
    clear hN2
    clear hb
    go_wp2_with fail
    refine hK.out _ _ (hb2) (fun hHeld => ?_)
    clear hK K
    try simp only [Act.put, List.setIfInBounds_toArray, List.set_cons_zero, List.set_cons_succ]
    refine wpAnyH_ready (rs := [5]) (by kernel_rfl) (by simp) ?_
    refine AllReadyH.cons (o := { dst := some 23, op := .call _, type := _, pos := _, after := _, guard := _ }) rfl (fun K hK => ?_) AllReadyH.nil
    go_simp
    refine (HEQ.out _ (hb2) A2 c2 HF2.out HCC2.out).mono ?_
    rintro e y3 ⟨rfl, hb⟩
    have hb3 : Below X.heap.size X y3 := keeps (hb2) hb
    clear hb
    go_wp2_with fail
    refine hK.out _ _ (hb3) (fun hHeld => ?_)
    clear hK K
    try simp only [Act.put, List.setIfInBounds_toArray, List.set_cons_zero, List.set_cons_succ]
    refine wpAnyH_take (i := 6) (oi := { dst := some 24, op := .pick (.tmp 19) (.tmp 23) (.const (.bool false)), type := _, pos := _, after := _, guard := _ }) (v := ?_) rfl (by kernel_rfl) (by kernel_rfl) (by kernel_rfl) (fun _ _ _ h => h) (Or.inl ⟨by rfl, ?_⟩) (by assumption) ?_
    rotate_left 1
    · intro v hSv
      clear hSv
      go_simp
      try with_reducible rfl
    try simp only [Act.put, List.setIfInBounds_toArray, List.set_cons_zero, List.set_cons_succ]
    refine wpAnyH_take (i := 7) (oi := { dst := some 4, op := .assign (.tmp 24), type := _, pos := _, after := _, guard := _ }) (v := ?_) rfl (by kernel_rfl) (by kernel_rfl) (by kernel_rfl) (fun _ _ _ h => h) (Or.inl ⟨by rfl, ?_⟩) (by assumption) ?_
    rotate_left 1
    · intro v hSv
      clear hSv
      go_simp
      try with_reducible rfl
    try simp only [Act.put, List.setIfInBounds_toArray, List.set_cons_zero, List.set_cons_succ]
    refine wpAnyH_done (by kernel_rfl) ?_ _
    go_wp2_with fail
    go_ret
    exact ⟨rfl, keeps HB.out ((hb3))⟩
  · go_enter Tryd.func5, Tryd.ntmps5
    go_wp2_with fail
    rw [← HX.out]
    clear HX hS
    clear d1 d2
    refine wp_region_held_drew (S := fun w' => Below X.heap.size X w') (by kernel_rfl) ((Below.refl _ _).drew) (fun hHeld => ?_)
    have hb0 : Below X.heap.size X X.drew := (Below.refl _ _).drew
    refine wpAnyH_ready (rs := [0]) (by kernel_rfl) (by simp) ?_
    refine AllReadyH.cons (o := { dst := some 18, op := .call _, type := _, pos := _, after := _, guard := _ }) rfl (fun K hK => ?_) AllReadyH.nil
    go_simp
    refine (HAL.out _ (hb0)).mono ?_
    rintro e y1 ⟨rfl, hb⟩
    have hb1 : Below X.heap.size X y1 := keeps (hb0) hb
    clear hb
    go_wp2_with fail
    refine hK.out _ _ (hb1) (fun hHeld => ?_)
    clear hK K
    try simp only [Act.put, List.setIfInBounds_toArray, List.set_cons_zero, List.set_cons_succ]
    refine wpAnyH_take (i := 1) (oi := { dst := some 19, op := .move (.tmp 18), type := _, pos := _, after := _, guard := _ }) (v := ?_) rfl (by kernel_rfl) (by kernel_rfl) (by kernel_rfl) (fun _ _ _ h => h) (Or.inl ⟨by rfl, ?_⟩) (by assumption) ?_
    rotate_left 1
    · intro v hSv
      clear hSv
      go_simp
      try with_reducible rfl
    try simp only [Act.put, List.setIfInBounds_toArray, List.set_cons_zero, List.set_cons_succ]
    refine wpAnyH_take (i := 2) (oi := { dst := some 20, op := .load _ (.tmp 2), type := _, pos := _, after := _, guard := _ }) (v := ?_) rfl (by kernel_rfl) (by kernel_rfl) (by kernel_rfl) (fun _ _ _ h => h) (Or.inl ⟨by rfl, ?_⟩) (by assumption) ?_
    rotate_left 1
    · intro v hSv
      have hv1 := LD.out v hSv
      clear hSv
      go_simp
      try with_reducible rfl
    try simp only [Act.put, List.setIfInBounds_toArray, List.set_cons_zero, List.set_cons_succ]
    refine wpAnyH_take (i := 3) (oi := { dst := some 21, op := .load _ (.tmp 2), type := _, pos := _, after := _, guard := _ }) (v := ?_) rfl (by kernel_rfl) (by kernel_rfl) (by kernel_rfl) (fun _ _ _ h => h) (Or.inl ⟨by rfl, ?_⟩) (by assumption) ?_
    rotate_left 1
    · intro v hSv
      have hv1 := LD.out v hSv
      clear hSv
      go_simp
      try with_reducible rfl
    try simp only [Act.put, List.setIfInBounds_toArray, List.set_cons_zero, List.set_cons_succ]
    refine wpAnyH_ready (rs := [4]) (by kernel_rfl) (by simp) ?_
    refine AllReadyH.cons (o := { dst := some 22, op := .call _, type := _, pos := _, after := _, guard := _ }) rfl (fun K hK => ?_) AllReadyH.nil
    go_simp
    refine (HCL.out _ (hb1)).mono ?_
    rintro e y2 ⟨A2, c2, rfl, hN2, hb⟩
    have hb2 : Below X.heap.size X y2 := keeps (hb1) hb
    have HF2 := Lib.hid (hN2.ds HPO.out.sib)
    have HCC2 := Lib.hid hN2.1
    clear hN2
    clear hb
    go_wp2_with fail
    refine hK.out _ _ (hb2) (fun hHeld => ?_)
    clear hK K
    try simp only [Act.put, List.setIfInBounds_toArray, List.set_cons_zero, List.set_cons_succ]
    refine wpAnyH_ready (rs := [5]) (by kernel_rfl) (by simp) ?_
    refine AllReadyH.cons (o := { dst := some 23, op := .call _, type := _, pos := _, after := _, guard := _ }) rfl (fun K hK => ?_) AllReadyH.nil
    go_simp
    refine (HEQ.out _ (hb2) A2 c2 HF2.out HCC2.out).mono ?_
    rintro e y3 ⟨rfl, hb⟩
    have hb3 : Below X.heap.size X y3 := keeps (hb2) hb
    clear hb
    go_wp2_with fail
    refine hK.out _ _ (hb3) (fun hHeld => ?_)
    clear hK K
    try simp only [Act.put, List.setIfInBounds_toArray, List.set_cons_zero, List.set_cons_succ]
    refine wpAnyH_take (i := 6) (oi := { dst := some 24, op := .pick (.tmp 19) (.tmp 23) (.const (.bool false)), type := _, pos := _, after := _, guard := _ }) (v := ?_) rfl (by kernel_rfl) (by kernel_rfl) (by kernel_rfl) (fun _ _ _ h => h) (Or.inl ⟨by rfl, ?_⟩) (by assumption) ?_
    rotate_left 1
    · intro v hSv
      clear hSv
      go_simp
      try with_reducible rfl
    try simp only [Act.put, List.setIfInBounds_toArray, List.set_cons_zero, List.set_cons_succ]
    refine wpAnyH_take (i := 7) (oi := { dst := some 4, op := .assign (.tmp 24), type := _, pos := _, after := _, guard := _ }) (v := ?_) rfl (by kernel_rfl) (by kernel_rfl) (by kernel_rfl) (fun _ _ _ h => h) (Or.inl ⟨by rfl, ?_⟩) (by assumption) ?_
    rotate_left 1
    · intro v hSv
      clear hSv
      go_simp
      try with_reducible rfl
    try simp only [Act.put, List.setIfInBounds_toArray, List.set_cons_zero, List.set_cons_succ]
    refine wpAnyH_done (by kernel_rfl) ?_ _
    go_wp2_with fail
    go_ret
    exact ⟨rfl, keeps HB.out ((hb3))⟩
set_option linter.unusedSimpArgs false in
set_option maxHeartbeats 16000000 in
set_option maxRecDepth 100000 in
theorem copies15_many {M : World → Int → Tv → Prop} (nd : NdV M) (pv : PtV M) (pf : PfV M) (p : Pf) (A : Option Addr) (c : Nat) (i : Nat) (hi : i < 256) (W : World) (hp : p.Ok) (hA : DS W A p.sib) (hc : p.sib.length ≤ c) (hvx : Vars W) (hl : p.sib.length ≤ 300) (hn : 0 < p.sib.length) :
    Calls Tryd.prog 5 #[.agg (pfC p (.slice A p.sib.length c)), .int .u8 i] W (Aye W) := by
  obtain ⟨X, hX⟩ : ∃ X, X = W.alloc (.cells (pfC p (.slice A p.sib.length c)) 29) := ⟨_, rfl⟩
  have hB : Below W.heap.size W X := by rw [hX]; exact Bt.one_below _ _
  have hP : PfAt X W.heap.size p (.slice A p.sib.length c) := by rw [hX]; exact PfAt.one _ _ _
  have hS := hP.sib hp
  rw [hX] at hS
  have HB := Lib.hid hB
  have HX := Lib.hid hX
  have HPO := Lib.hid hp
  have HPX := Lib.hid hP
  have HAX := Lib.hid (hA.below hB)
  have HVX := Lib.hid (hvx.below hB)
  have HNE := Lib.hid hn
  have HCP := Lib.hid hc
  have HL := Lib.hid hl
  have HCL : Hid (∀ w, Below X.heap.size X w → Calls Tryd.prog 12 #[.agg (pfC p (.slice A p.sib.length c))] w fun e w' => ∃ A' c', e = .returned (.agg (pfC p (.slice A' p.sib.length c'))) ∧ NewD w' w.heap.size A' c' p.sib ∧ Below w.heap.size w w') := fun w h => pf.clone w p A c hp ((hA.below hB).below h) hc (by omega)
  have LD : Hid (∀ v, Below X.heap.size X v → ldA 29 v (.pointer (some ⟨W.heap.size, 0, none⟩)) = .ok (.value (.agg (pfC p (.slice A p.sib.length c)))) v) := fun v h => (hP.below h hP.lt).ld hp
  have d1 : decide ((300 : Int) < p.sib.length) = false := by simp; omega
  have d2 : ((p.sib.length : Int) == 0) = false := by simp; exact fun h => by rw [h] at hn; simp at hn
  have zs := zeroPf
  clear hB hP hp hX hA hc hl hn
  go_enter Tryd.func5, Tryd.ntmps5
  go_wp2_with fail
  rw [← HX.out]
  clear HX hS d1 d2
  rename_i K0 hK0
  have HC : Hid (∀ (u1 u3 g5 g6 c1 c3 : Nat) (wf : World), PfAt wf g5 p (.slice (some ⟨u1, 0, none⟩) p.sib.length c1) → PfAt wf g6 p (.slice (some ⟨u3, 0, none⟩) p.sib.length c3) → OwnD wf X.heap.size (.slice (some ⟨u1, 0, none⟩) p.sib.length c1) p.sib → OwnD wf X.heap.size (.slice (some ⟨u3, 0, none⟩) p.sib.length c3) p.sib →
      p.sib.length ≤ c1 → p.sib.length ≤ c3 → X.heap.size ≤ g5 → X.heap.size ≤ g6 → g5 ≠ g6 → u1 ≠ u3 → u1 ≠ g5 → u1 ≠ g6 → X.heap.size ≤ u1 → Below X.heap.size X wf →
      K0 { tmps := #[.agg (pfC p (.slice A p.sib.length c)), .int .u8 i, .pointer (some ⟨W.heap.size, 0, none⟩), undef, .bool false, .pointer (some ⟨g5, 0, none⟩), .pointer (some ⟨g6, 0, none⟩), undef, .pointer (some ⟨W.heap.size, 98, none⟩), .slice A p.sib.length c, .int .i64 p.sib.length, .bool false, .bool false, .pointer (some ⟨W.heap.size, 98, none⟩), .slice A p.sib.length c, .int .i64 p.sib.length, .bool false, .bool false, undef, undef, undef, undef, undef, undef, undef, .agg (pfC p (.slice A p.sib.length c)), .agg (pfC p (.slice (some ⟨u1, 0, none⟩) p.sib.length c1)), .agg (pfC p (.slice A p.sib.length c)), .agg (pfC p (.slice (some ⟨u3, 0, none⟩) p.sib.length c3)), undef, undef, undef, undef, undef, undef, undef, undef, undef, undef, undef, undef, undef, undef, undef, undef, undef, undef, undef, undef, undef, undef, undef, undef, undef, undef, undef, undef, undef, undef, undef, undef, undef, undef, undef, undef, undef], defers := [] } wf) := by
    intro u1 u3 g5 g6 c1 c3 wf h5 h6 hO1 hO3 hc1 hc3 hx5 hx6 hne56 hne13 hne15 hne16 hux hBw
    have HG5 := Lib.hid h5
    have HG6 := Lib.hid h6
    have HO1 := Lib.hid hO1
    have HO3 := Lib.hid hO3
    have HC1 := Lib.hid hc1
    have HC3 := Lib.hid hc3
    have HNN := Lib.hid (And.intro hne56 (And.intro hne13 (And.intro hne15 (And.intro hne16 hux))))
    have HBW := Lib.hid hBw
    have HSX : Hid (X.heap.size ≤ wf.heap.size) := hBw.size
    have HRQ : Hid (∀ w B d B' d', DS w B p.sib → DS w B' p.sib → Calls Tryd.prog 13 #[.agg (pfC p (.slice B p.sib.length d)), .agg (pfC p (.slice B' p.sib.length d'))] w fun e w' => e = .returned (.bool true) ∧ Below w.heap.size w w') := fun w B d B' d' h1 h2 => by
      have hl := HL.out
      have := requal_c p p HPO.out HPO.out B B' d d' w h1 h2 (by omega) (by omega)
      rwa [eqP_refl] at this
    have HPQ : Hid (∀ w B d, DS w B p.sib → DS w A p.sib → p.sib.length ≤ d → Calls Tryd.prog 11 #[.agg (pfC p (.slice B p.sib.length d)), .agg (pfC p (.slice A p.sib.length c))] w fun e w' => e = .returned (.bool true) ∧ Below w.heap.size w w') := fun w B d h1 h2 h3 => by
      have hl := HL.out
      have := pf.equal w p p B A d c HPO.out HPO.out h1 h2 h3 HCP.out (by omega) (by omega)
      rwa [eqP_refl] at this
    have l2 := (HPX.out.below hBw HPX.out.lt).ld HPO.out
    have l5 := h5.ld HPO.out
    clear h5 h6 hO1 hO3 hc1 hc3 hx5 hx6 hne56 hne13 hne15 hne16 hux hBw
    go_wp2_with fail
    refine (HRQ.out wf _ c1 _ c (HO1.out.dsA HPO.out.sib) (HAX.out.below HBW.out)).mono ?_
    rintro _ w1 ⟨rfl, hb⟩
    have HB1 := Lib.hid (keeps HBW.out hb)
    have HG51 := Lib.hid (HG5.out.below hb HG5.out.lt)
    have HG61 := Lib.hid (HG6.out.below hb HG6.out.lt)
    have HO11 := Lib.hid (HO1.out.below hb)
    have HO31 := Lib.hid (HO3.out.below hb)
    have l2 := (HPX.out.below HB1.out HPX.out.lt).ld HPO.out
    have l5 := HG51.out.ld HPO.out
    clear hb
    go_wp2_with fail
    refine (HPQ.out w1 _ c1 (HO11.out.dsA HPO.out.sib) (HAX.out.below HB1.out) HC1.out).mono ?_
    rintro _ w2 ⟨rfl, hb⟩
    have HB2 := Lib.hid (keeps HB1.out hb)
    have HG52 := Lib.hid (HG51.out.below hb HG51.out.lt)
    have HG62 := Lib.hid (HG61.out.below hb HG61.out.lt)
    have HO12 := Lib.hid (HO11.out.below hb)
    have HO32 := Lib.hid (HO31.out.below hb)
    have s2 := (HPX.out.below HB2.out HPX.out.lt).sib HPO.out
    have s5 := HG52.out.sib HPO.out
    clear hb l2 l5
    obtain ⟨j, hj⟩ : ∃ j, j = i % p.sib.length := ⟨_, rfl⟩
    have hjl : j < p.sib.length := by rw [hj]; exact Nat.mod_lt _ HNE.out
    have hjI : (i : Int) % (p.sib.length : Int) = (j : Int) := by rw [hj]; omega
    obtain ⟨sv, hsv⟩ : ∃ s, p.sib[j]? = some s := ⟨_, List.getElem?_eq_getElem hjl⟩
    have hsl : sv.length = 32 := HPO.out.sib sv (List.mem_of_getElem? hsv)
    obtain ⟨x, hx⟩ : ∃ x, sv[0]? = some x := ⟨_, List.getElem?_eq_getElem (by omega)⟩
    obtain ⟨lc, lf⟩ := HO12.out.cell0 HPO.out.sib hsv hx
    have hnz : ((p.sib.length : Int) == 0) = false := by have := HNE.out; simp; exact fun h => by rw [h] at this; simp at this
    have hz3 : decide (p.sib.length = 0) = false := decide_eq_false (by have := HNE.out; omega)
    have hpos : (0 : Int) < (p.sib.length : Int) := by have := HNE.out; omega
    have p0 : (0 : Int) ≤ (j : Int) := by omega
    have p1 : (j : Int) < (p.sib.length : Int) := by omega
    have HSV := Lib.hid hsv
    have HSL := Lib.hid hsl
    have HXX := Lib.hid hx
    have HJL := Lib.hid hjl
    clear hj hsv hsl hx
    have hw : IntKind.u8.wrap ((x.toNat : Int) + 1) = ((x + 1).toNat : Int) := by
      rw [wrap_u8, UInt8.toNat_add]
      simp
    have lc' : w2.cell? ⟨u1, j * 32, none⟩ = some (.int .u8 (x.toNat : Int)) := lc
    clear lc
    go_wp2_with fail
    rw [hjI]
    refine wp_region_drawn_tail 9 (by kernel_rfl) (by kernel_rfl) ?_
    simp only [List.take_succ_cons, List.take_zero, List.drop_succ_cons, List.drop_zero]
    repeat (go_big_quiet_step (fail))
    refine wpQuiet_nil ?_
    rintro _ ⟨nq, rfl⟩
    go_wp2_with fail
    have hwx : ((x.toNat : Int) + 1) % 256 = ((x + 1).toNat : Int) := by rw [UInt8.toNat_add]; simp
    rw [hwx]
    obtain ⟨Z, hZ⟩ : ∃ Z, Z = (w2.setCell ⟨u1, j * 32, none⟩ (.int .u8 ((x + 1).toNat : Int))).drewN nq := ⟨_, rfl⟩
    rw [← hZ]
    have hu : X.heap.size ≤ u1 := HNN.out.2.2.2.2
    have HBZ : Hid (Below X.heap.size X Z) := by
      show Below _ _ _
      rw [hZ]
      exact Bt.below_drewN (below_cell15 HB2.out hu) _
    have HGZ : Hid (PfAt Z g5 p (.slice (some ⟨u1, 0, none⟩) p.sib.length c1)) := by
      show Z.heap[g5]? = _
      rw [hZ]
      exact (heap_setCell_other _ _ _ _ (fun e => HNN.out.2.2.1 e.symm)).trans HG52.out
    have HRZ : Hid (PfAt Z g6 p (.slice (some ⟨u3, 0, none⟩) p.sib.length c3)) := by
      show Z.heap[g6]? = _
      rw [hZ]
      exact (heap_setCell_other _ _ _ _ (fun e => HNN.out.2.2.2.1 e.symm)).trans HG62.out
    have HQZ : Hid (DS Z (some ⟨u1, 0, none⟩) (p.sib.set j (sv.set 0 (x + 1)))) := by
      have := HO12.out.byte HPO.out.sib HSV.out (x + 1)
      show DS _ _ _
      rw [hZ]
      exact this
    have HUZ : Hid (OwnD Z X.heap.size (.slice (some ⟨u3, 0, none⟩) p.sib.length c3) p.sib) := row11_other HO32.out fun g cs hg hh => by
      have e : u3 = g := by simpa [Value.ownBlock] using hg
      rw [hZ]
      exact (heap_setCell_other _ _ _ _ (show g ≠ u1 from fun e2 => HNN.out.2.1 (by rw [← e2]; exact e.symm))).trans hh
    obtain ⟨q, hq⟩ : ∃ q : Pf, q = { p with sib := p.sib.set j (sv.set 0 (x + 1)) } := ⟨_, rfl⟩
    have hqo : q.Ok := by
      rw [hq]
      refine ⟨HPO.out.lf, HPO.out.bm, fun s hs => ?_⟩
      rcases List.mem_or_eq_of_mem_set hs with h | h
      · exact HPO.out.sib s h
      · rw [h, List.length_set]; exact HSL.out
    have hne : eqP q p = false := eqP_no (.inr (.inr (.inr (.inr (by
      rw [hq]
      intro e
      have e : p.sib.set j (sv.set 0 (x + 1)) = p.sib := e
      have h1 : (p.sib.set j (sv.set 0 (x + 1)))[j]? = some (sv.set 0 (x + 1)) := by rw [List.getElem?_set, if_pos rfl, if_pos HJL.out]
      rw [e, HSV.out] at h1
      have h2 : sv = sv.set 0 (x + 1) := Option.some.inj h1
      have h3 : (sv.set 0 (x + 1))[0]? = some (x + 1) := by rw [List.getElem?_set, if_pos rfl, if_pos (by have := HSL.out; omega)]
      rw [← h2, HXX.out] at h3
      have h4 : x = x + 1 := Option.some.inj h3
      have h5 := congrArg UInt8.toNat h4
      rw [UInt8.toNat_add] at h5
      have := x.toNat_lt
      simp at h5
      omega)))))
    have HNQ : Hid (∀ w, DS w (some ⟨u1, 0, none⟩) (p.sib.set j (sv.set 0 (x + 1))) → DS w A p.sib → Calls Tryd.prog 11 #[.agg (pfC p (.slice (some ⟨u1, 0, none⟩) p.sib.length c1)), .agg (pfC p (.slice A p.sib.length c))] w fun e w' => e = .returned (.bool false) ∧ Below w.heap.size w w') := fun w h1 h2 => by
      have hl := HL.out
      have hql : q.sib.length = p.sib.length := by rw [hq]; exact List.length_set
      have := pf.equal w q p (some ⟨u1, 0, none⟩) A c1 c hqo HPO.out (by rw [hq]; exact h1) h2 (by rw [hql]; exact HC1.out) HCP.out (by omega) (by omega)
      rw [hne, hql] at this
      rw [hq] at this
      exact this
    clear hZ hq hqo hne hwx hw lc' lf s2 s5 hu p0 p1 hjI hnz hz3 hpos
    refine (alive15_c nd pv pf _ (HVX.out.below HBZ.out)).mono ?_
    rintro _ w4 ⟨rfl, hb⟩
    have HB4 := Lib.hid (keeps HBZ.out hb)
    have HG4 := Lib.hid (HGZ.out.below hb HGZ.out.lt)
    have HR4 := Lib.hid (HRZ.out.below hb HRZ.out.lt)
    have HQ4 := Lib.hid (HQZ.out.below hb)
    have HU4 := Lib.hid (HUZ.out.below hb)
    have l2 := (HPX.out.below HB4.out HPX.out.lt).ld HPO.out
    have l5 := HG4.out.ld HPO.out
    clear hb
    go_wp2_with fail
    refine (HNQ.out w4 HQ4.out (HAX.out.below HB4.out)).mono ?_
    rintro _ w5 ⟨rfl, hb⟩
    have HB5 := Lib.hid (keeps HB4.out hb)
    have HR5 := Lib.hid (HR4.out.below hb HR4.out.lt)
    have HU5 := Lib.hid (HU4.out.below hb)
    have l2 := (HPX.out.below HB5.out HPX.out.lt).ld HPO.out
    have l6 := HR5.out.ld HPO.out
    clear hb l5
    go_wp2_with fail
    refine (HRQ.out w5 _ c3 _ c (HU5.out.dsA HPO.out.sib) (HAX.out.below HB5.out)).mono ?_
    rintro _ w6 ⟨rfl, hb⟩
    have HB6 := Lib.hid (keeps HB5.out hb)
    clear hb l2 l6
    go_wp2
    go_ret
    exact ⟨rfl, keeps HB.out HB6.out⟩
  clear hK0
  refine wp_region_held_drew (S := fun w' => Below X.heap.size X w') (by kernel_rfl) ((Below.refl _ _).drew) (fun hHeld => ?_)
  obtain ⟨y0, hy0⟩ : ∃ y, y = X.drew := ⟨_, rfl⟩
  have hb0 : Below X.heap.size X y0 := by rw [hy0]; exact (Below.refl _ _).drew
  try rw [← hy0] at hHeld
  rw [← hy0]
  clear hy0
  refine wpAnyH_take (i := 0) (oi := { dst := some 25, op := .load _ (.tmp 2), type := _, pos := _, after := _, guard := _ }) (v := ?_) rfl (by kernel_rfl) (by kernel_rfl) (by kernel_rfl) (fun _ _ _ h => h) (Or.inl ⟨by rfl, ?_⟩) (by assumption) ?_
  rotate_left 1
  · intro v hSv
    have hv1 := LD.out v hSv
    clear hSv
    go_simp
    try with_reducible rfl
  try simp only [Act.put, List.setIfInBounds_toArray, List.set_cons_zero, List.set_cons_succ]
  refine wpAnyH_take (i := 2) (oi := { dst := some 27, op := .load _ (.tmp 2), type := _, pos := _, after := _, guard := _ }) (v := ?_) rfl (by kernel_rfl) (by kernel_rfl) (by kernel_rfl) (fun _ _ _ h => h) (Or.inl ⟨by rfl, ?_⟩) (by assumption) ?_
  rotate_left 1
  · intro v hSv
    have hv1 := LD.out v hSv
    clear hSv
    go_simp
    try with_reducible rfl
  try simp only [Act.put, List.setIfInBounds_toArray, List.set_cons_zero, List.set_cons_succ]
  refine wpAnyH_ready (rs := [1, 4, 5]) (by kernel_rfl) (by simp) ?_
  refine AllReadyH.cons (o := { dst := some 26, op := .call _, type := _, pos := _, after := _, guard := _ }) rfl (fun K hK => ?_) (AllReadyH.cons (o := { dst := some 5, op := .alloc _, type := _, pos := _, after := _, guard := _ }) rfl (fun K hK => ?_) (AllReadyH.cons (o := { dst := some 6, op := .alloc _, type := _, pos := _, after := _, guard := _ }) rfl (fun K hK => ?_) (AllReadyH.nil)))
  · skip
    go_simp
    refine (HCL.out y0 (hb0)).mono ?_
    rintro e y1 ⟨A1, c1, rfl, hN, hb⟩
    have hb1 : Below X.heap.size X y1 := keeps (hb0) hb
    have hs1 : y0.heap.size ≤ y1.heap.size := hb.size
    obtain ⟨u1, rfl, hu1, hv1, hO⟩ := clone_row HNE.out hN
    have hgx1 : X.heap.size ≤ y0.heap.size := (hb0).size
    have HO1_1 : Hid (OwnD y1 X.heap.size (.slice (some ⟨u1, 0, none⟩) p.sib.length c1) p.sib) := hO.mono hgx1
    have HCC1 := Lib.hid hN.1
    clear hb hN hO
    go_wp2_with fail
    refine hK.out _ _ (hb1) (fun hHeld => ?_)
    clear hK K
    try simp only [Act.put, List.setIfInBounds_toArray, List.set_cons_zero, List.set_cons_succ]
    refine wpAnyH_ready (rs := [3, 4, 5]) (by kernel_rfl) (by simp) ?_
    refine AllReadyH.cons (o := { dst := some 28, op := .call _, type := _, pos := _, after := _, guard := _ }) rfl (fun K hK => ?_) (AllReadyH.cons (o := { dst := some 5, op := .alloc _, type := _, pos := _, after := _, guard := _ }) rfl (fun K hK => ?_) (AllReadyH.cons (o := { dst := some 6, op := .alloc _, type := _, pos := _, after := _, guard := _ }) rfl (fun K hK => ?_) (AllReadyH.nil)))
    · skip
      go_simp
      refine (HCL.out y1 (hb1)).mono ?_
      rintro e y2 ⟨A3, c3, rfl, hN, hb⟩
      have hb2 : Below X.heap.size X y2 := keeps (hb1) hb
      have hs2 : y1.heap.size ≤ y2.heap.size := hb.size
      obtain ⟨u3, rfl, hu3, hv3, hO⟩ := clone_row HNE.out hN
      have HO2_1 := Lib.hid (HO1_1.out.below (hb))
      have hgx3 : X.heap.size ≤ y1.heap.size := (hb1).size
      have HO2_3 : Hid (OwnD y2 X.heap.size (.slice (some ⟨u3, 0, none⟩) p.sib.length c3) p.sib) := hO.mono hgx3
      have HCC3 := Lib.hid hN.1
      clear hb hN hO
      go_wp2_with fail
      refine hK.out _ _ (hb2) (fun hHeld => ?_)
      clear hK K
      try simp only [Act.put, List.setIfInBounds_toArray, List.set_cons_zero, List.set_cons_succ]
      refine wpAnyH_ready (rs := [4, 5]) (by kernel_rfl) (by simp) ?_
      refine AllReadyH.cons (o := { dst := some 5, op := .alloc _, type := _, pos := _, after := _, guard := _ }) rfl (fun K hK => ?_) (AllReadyH.cons (o := { dst := some 6, op := .alloc _, type := _, pos := _, after := _, guard := _ }) rfl (fun K hK => ?_) (AllReadyH.nil))
      · skip
        go_simp
        obtain ⟨y3, hy3⟩ : ∃ y, y = y2.alloc (.cells (pfC zPf (.slice none 0 0)) 29) := ⟨_, rfl⟩
        have hb3 : Below X.heap.size X y3 := by rw [hy3]; exact (hb2).alloc (hb2).size _
        have hq : Below y2.heap.size y2 y3 := by rw [hy3]; exact Bt.one_below _ _
        have hs3 : y2.heap.size + 1 ≤ y3.heap.size := by rw [hy3]; simp
        have HO3_1 := Lib.hid (HO2_1.out.below (hq))
        have HO3_3 := Lib.hid (HO2_3.out.below (hq))
        have HG3_5 : Hid (PfAt y3 y2.heap.size zPf (.slice none 0 0)) := by show PfAt _ _ _ _; rw [hy3]; exact PfAt.one _ _ _
        have hg5 : X.heap.size ≤ y2.heap.size := (hb2).size
        rw [← hy3]
        clear hy3 hq
        refine hK.out _ _ (hb3) (fun hHeld => ?_)
        clear hK K
        try simp only [Act.put, List.setIfInBounds_toArray, List.set_cons_zero, List.set_cons_succ]
        refine wpAnyH_ready (rs := [5]) (by kernel_rfl) (by simp) ?_
        refine AllReadyH.cons (o := { dst := some 6, op := .alloc _, type := _, pos := _, after := _, guard := _ }) rfl (fun K hK => ?_) AllReadyH.nil
        go_simp
        obtain ⟨y4, hy4⟩ : ∃ y, y = y3.alloc (.cells (pfC zPf (.slice none 0 0)) 29) := ⟨_, rfl⟩
        have hb4 : Below X.heap.size X y4 := by rw [hy4]; exact (hb3).alloc (hb3).size _
        have hq : Below y3.heap.size y3 y4 := by rw [hy4]; exact Bt.one_below _ _
        have hs4 : y3.heap.size + 1 ≤ y4.heap.size := by rw [hy4]; simp
        have HG4_5 := Lib.hid (HG3_5.out.below (hq) HG3_5.out.lt)
        have HO4_1 := Lib.hid (HO3_1.out.below (hq))
        have HO4_3 := Lib.hid (HO3_3.out.below (hq))
        have HG4_6 : Hid (PfAt y4 y3.heap.size zPf (.slice none 0 0)) := by show PfAt _ _ _ _; rw [hy4]; exact PfAt.one _ _ _
        have hg6 : X.heap.size ≤ y3.heap.size := (hb3).size
        rw [← hy4]
        clear hy4 hq
        refine hK.out _ _ (hb4) (fun hHeld => ?_)
        clear hK K
        try simp only [Act.put, List.setIfInBounds_toArray, List.set_cons_zero, List.set_cons_succ]
        refine wpAnyH_ready (rs := [6]) (by kernel_rfl) (by simp) ?_
        refine AllReadyH.cons (o := { dst := none, op := .store _ (.tmp 5) (.tmp 26), type := _, pos := _, after := _, guard := _ }) rfl (fun K hK => ?_) AllReadyH.nil
        have st5 : stA 29 y4 (.pointer (some ⟨y2.heap.size, 0, none⟩)) (.agg (pfC p (.slice (some ⟨u1, 0, none⟩) p.sib.length c1))) = .ok .skip (y4.setRow y2.heap.size (pfC p (.slice (some ⟨u1, 0, none⟩) p.sib.length c1))) := stA_row HG4_5.out (by rw [pfC_size HPO.out]; exact infoPf) (by rw [pfC_size HPO.out, pfC_size zPf_ok]) (pfC_one _ _ _ _)
        go_simp
        clear st5
        have HG5_5 : Hid (PfAt (y4.setRow y2.heap.size (pfC p (.slice (some ⟨u1, 0, none⟩) p.sib.length c1))) y2.heap.size p (.slice (some ⟨u1, 0, none⟩) p.sib.length c1)) := setRow_heap _ _ _ _ _ _ HG4_5.out
        have HG5_6 : Hid (PfAt (y4.setRow y2.heap.size (pfC p (.slice (some ⟨u1, 0, none⟩) p.sib.length c1))) y3.heap.size zPf (.slice none 0 0)) := (setRow_other _ _ _ _ (by omega)).trans HG4_6.out
        have HO5_1 : Hid (OwnD (y4.setRow y2.heap.size (pfC p (.slice (some ⟨u1, 0, none⟩) p.sib.length c1))) X.heap.size (.slice (some ⟨u1, 0, none⟩) p.sib.length c1) p.sib) := row11_other HO4_1.out (fun g cs hg hh => (setRow_other _ _ _ _ (by have e : u1 = g := (by simpa [Value.ownBlock] using hg); omega)).trans hh)
        have HO5_3 : Hid (OwnD (y4.setRow y2.heap.size (pfC p (.slice (some ⟨u1, 0, none⟩) p.sib.length c1))) X.heap.size (.slice (some ⟨u3, 0, none⟩) p.sib.length c3) p.sib) := row11_other HO4_3.out (fun g cs hg hh => (setRow_other _ _ _ _ (by have e : u3 = g := (by simpa [Value.ownBlock] using hg); omega)).trans hh)
        have hb5 : Below X.heap.size X (y4.setRow y2.heap.size (pfC p (.slice (some ⟨u1, 0, none⟩) p.sib.length c1))) := Bt.below_row (hb4) hg5 _
        refine hK.out _ _ (hb5) (fun hHeld => ?_)
        clear hK K
        try simp only [Act.put, List.setIfInBounds_toArray, List.set_cons_zero, List.set_cons_succ]
        refine wpAnyH_ready (rs := [7]) (by kernel_rfl) (by simp) ?_
        refine AllReadyH.cons (o := { dst := none, op := .store _ (.tmp 6) (.tmp 28), type := _, pos := _, after := _, guard := _ }) rfl (fun K hK => ?_) AllReadyH.nil
        have st6 : stA 29 (y4.setRow y2.heap.size (pfC p (.slice (some ⟨u1, 0, none⟩) p.sib.length c1))) (.pointer (some ⟨y3.heap.size, 0, none⟩)) (.agg (pfC p (.slice (some ⟨u3, 0, none⟩) p.sib.length c3))) = .ok .skip ((y4.setRow y2.heap.size (pfC p (.slice (some ⟨u1, 0, none⟩) p.sib.length c1))).setRow y3.heap.size (pfC p (.slice (some ⟨u3, 0, none⟩) p.sib.length c3))) := stA_row HG5_6.out (by rw [pfC_size HPO.out]; exact infoPf) (by rw [pfC_size HPO.out, pfC_size zPf_ok]) (pfC_one _ _ _ _)
        go_simp
        clear st6
        have HG6_5 : Hid (PfAt ((y4.setRow y2.heap.size (pfC p (.slice (some ⟨u1, 0, none⟩) p.sib.length c1))).setRow y3.heap.size (pfC p (.slice (some ⟨u3, 0, none⟩) p.sib.length c3))) y2.heap.size p (.slice (some ⟨u1, 0, none⟩) p.sib.length c1)) := (setRow_other _ _ _ _ (by omega)).trans HG5_5.out
        have HG6_6 : Hid (PfAt ((y4.setRow y2.heap.size (pfC p (.slice (some ⟨u1, 0, none⟩) p.sib.length c1))).setRow y3.heap.size (pfC p (.slice (some ⟨u3, 0, none⟩) p.sib.length c3))) y3.heap.size p (.slice (some ⟨u3, 0, none⟩) p.sib.length c3)) := setRow_heap _ _ _ _ _ _ HG5_6.out
        have HO6_1 : Hid (OwnD ((y4.setRow y2.heap.size (pfC p (.slice (some ⟨u1, 0, none⟩) p.sib.length c1))).setRow y3.heap.size (pfC p (.slice (some ⟨u3, 0, none⟩) p.sib.length c3))) X.heap.size (.slice (some ⟨u1, 0, none⟩) p.sib.length c1) p.sib) := row11_other HO5_1.out (fun g cs hg hh => (setRow_other _ _ _ _ (by have e : u1 = g := (by simpa [Value.ownBlock] using hg); omega)).trans hh)
        have HO6_3 : Hid (OwnD ((y4.setRow y2.heap.size (pfC p (.slice (some ⟨u1, 0, none⟩) p.sib.length c1))).setRow y3.heap.size (pfC p (.slice (some ⟨u3, 0, none⟩) p.sib.length c3))) X.heap.size (.slice (some ⟨u3, 0, none⟩) p.sib.length c3) p.sib) := row11_other HO5_3.out (fun g cs hg hh => (setRow_other _ _ _ _ (by have e : u3 = g := (by simpa [Value.ownBlock] using hg); omega)).trans hh)
        have hb6 : Below X.heap.size X ((y4.setRow y2.heap.size (pfC p (.slice (some ⟨u1, 0, none⟩) p.sib.length c1))).setRow y3.heap.size (pfC p (.slice (some ⟨u3, 0, none⟩) p.sib.length c3))) := Bt.below_row (hb5) hg6 _
        refine hK.out _ _ (hb6) (fun hHeld => ?_)
        clear hK K
        try simp only [Act.put, List.setIfInBounds_toArray, List.set_cons_zero, List.set_cons_succ]
        refine wpAnyH_done (by kernel_rfl) ?_ _
        exact HC.out u1 u3 (y2.heap.size) (y3.heap.size) c1 c3 _ HG6_5.out HG6_6.out HO6_1.out HO6_3.out HCC1.out HCC3.out (by omega) (by omega) (by omega) (by omega) (by omega) (by omega) (by omega) hb6
      · skip
        go_simp
        obtain ⟨y7, hy7⟩ : ∃ y, y = y2.alloc (.cells (pfC zPf (.slice none 0 0)) 29) := ⟨_, rfl⟩
        have hb7 : Below X.heap.size X y7 := by rw [hy7]; exact (hb2).alloc (hb2).size _
        have hq : Below y2.heap.size y2 y7 := by rw [hy7]; exact Bt.one_below _ _
        have hs7 : y2.heap.size + 1 ≤ y7.heap.size := by rw [hy7]; simp
        have HO7_1 := Lib.hid (HO2_1.out.below (hq))
        have HO7_3 := Lib.hid (HO2_3.out.below (hq))
        have HG7_6 : Hid (PfAt y7 y2.heap.size zPf (.slice none 0 0)) := by show PfAt _ _ _ _; rw [hy7]; exact PfAt.one _ _ _
        have hg6 : X.heap.size ≤ y2.heap.size := (hb2).size
        rw [← hy7]
        clear hy7 hq
        refine hK.out _ _ (hb7) (fun hHeld => ?_)
        clear hK K
        try simp only [Act.put, List.setIfInBounds_toArray, List.set_cons_zero, List.set_cons_succ]
        refine wpAnyH_ready (rs := [4]) (by kernel_rfl) (by simp) ?_
        refine AllReadyH.cons (o := { dst := some 5, op := .alloc _, type := _, pos := _, after := _, guard := _ }) rfl (fun K hK => ?_) AllReadyH.nil
        go_simp
        obtain ⟨y8, hy8⟩ : ∃ y, y = y7.alloc (.cells (pfC zPf (.slice none 0 0)) 29) := ⟨_, rfl⟩
        have hb8 : Below X.heap.size X y8 := by rw [hy8]; exact (hb7).alloc (hb7).size _
        have hq : Below y7.heap.size y7 y8 := by rw [hy8]; exact Bt.one_below _ _
        have hs8 : y7.heap.size + 1 ≤ y8.heap.size := by rw [hy8]; simp
        have HG8_6 := Lib.hid (HG7_6.out.below (hq) HG7_6.out.lt)
        have HO8_1 := Lib.hid (HO7_1.out.below (hq))
        have HO8_3 := Lib.hid (HO7_3.out.below (hq))
        have HG8_5 : Hid (PfAt y8 y7.heap.size zPf (.slice none 0 0)) := by show PfAt _ _ _ _; rw [hy8]; exact PfAt.one _ _ _
        have hg5 : X.heap.size ≤ y7.heap.size := (hb7).size
        rw [← hy8]
        clear hy8 hq
        refine hK.out _ _ (hb8) (fun hHeld => ?_)
        clear hK K
        try simp only [Act.put, List.setIfInBounds_toArray, List.set_cons_zero, List.set_cons_succ]
        refine wpAnyH_ready (rs := [6]) (by kernel_rfl) (by simp) ?_
        refine AllReadyH.cons (o := { dst := none, op := .store _ (.tmp 5) (.tmp 26), type := _, pos := _, after := _, guard := _ }) rfl (fun K hK => ?_) AllReadyH.nil
        have st9 : stA 29 y8 (.pointer (some ⟨y7.heap.size, 0, none⟩)) (.agg (pfC p (.slice (some ⟨u1, 0, none⟩) p.sib.length c1))) = .ok .skip (y8.setRow y7.heap.size (pfC p (.slice (some ⟨u1, 0, none⟩) p.sib.length c1))) := stA_row HG8_5.out (by rw [pfC_size HPO.out]; exact infoPf) (by rw [pfC_size HPO.out, pfC_size zPf_ok]) (pfC_one _ _ _ _)
        go_simp
        clear st9
        have HG9_6 : Hid (PfAt (y8.setRow y7.heap.size (pfC p (.slice (some ⟨u1, 0, none⟩) p.sib.length c1))) y2.heap.size zPf (.slice none 0 0)) := (setRow_other _ _ _ _ (by omega)).trans HG8_6.out
        have HG9_5 : Hid (PfAt (y8.setRow y7.heap.size (pfC p (.slice (some ⟨u1, 0, none⟩) p.sib.length c1))) y7.heap.size p (.slice (some ⟨u1, 0, none⟩) p.sib.length c1)) := setRow_heap _ _ _ _ _ _ HG8_5.out
        have HO9_1 : Hid (OwnD (y8.setRow y7.heap.size (pfC p (.slice (some ⟨u1, 0, none⟩) p.sib.length c1))) X.heap.size (.slice (some ⟨u1, 0, none⟩) p.sib.length c1) p.sib) := row11_other HO8_1.out (fun g cs hg hh => (setRow_other _ _ _ _ (by have e : u1 = g := (by simpa [Value.ownBlock] using hg); omega)).trans hh)
        have HO9_3 : Hid (OwnD (y8.setRow y7.heap.size (pfC p (.slice (some ⟨u1, 0, none⟩) p.sib.length c1))) X.heap.size (.slice (some ⟨u3, 0, none⟩) p.sib.length c3) p.sib) := row11_other HO8_3.out (fun g cs hg hh => (setRow_other _ _ _ _ (by have e : u3 = g := (by simpa [Value.ownBlock] using hg); omega)).trans hh)
        have hb9 : Below X.heap.size X (y8.setRow y7.heap.size (pfC p (.slice (some ⟨u1, 0, none⟩) p.sib.length c1))) := Bt.below_row (hb8) hg5 _
        refine hK.out _ _ (hb9) (fun hHeld => ?_)
        clear hK K
        try simp only [Act.put, List.setIfInBounds_toArray, List.set_cons_zero, List.set_cons_succ]
        refine wpAnyH_ready (rs := [7]) (by kernel_rfl) (by simp) ?_
        refine AllReadyH.cons (o := { dst := none, op := .store _ (.tmp 6) (.tmp 28), type := _, pos := _, after := _, guard := _ }) rfl (fun K hK => ?_) AllReadyH.nil
        have st10 : stA 29 (y8.setRow y7.heap.size (pfC p (.slice (some ⟨u1, 0, none⟩) p.sib.length c1))) (.pointer (some ⟨y2.heap.size, 0, none⟩)) (.agg (pfC p (.slice (some ⟨u3, 0, none⟩) p.sib.length c3))) = .ok .skip ((y8.setRow y7.heap.size (pfC p (.slice (some ⟨u1, 0, none⟩) p.sib.length c1))).setRow y2.heap.size (pfC p (.slice (some ⟨u3, 0, none⟩) p.sib.length c3))) := stA_row HG9_6.out (by rw [pfC_size HPO.out]; exact infoPf) (by rw [pfC_size HPO.out, pfC_size zPf_ok]) (pfC_one _ _ _ _)
        go_simp
        clear st10
        have HG10_6 : Hid (PfAt ((y8.setRow y7.heap.size (pfC p (.slice (some ⟨u1, 0, none⟩) p.sib.length c1))).setRow y2.heap.size (pfC p (.slice (some ⟨u3, 0, none⟩) p.sib.length c3))) y2.heap.size p (.slice (some ⟨u3, 0, none⟩) p.sib.length c3)) := setRow_heap _ _ _ _ _ _ HG9_6.out
        have HG10_5 : Hid (PfAt ((y8.setRow y7.heap.size (pfC p (.slice (some ⟨u1, 0, none⟩) p.sib.length c1))).setRow y2.heap.size (pfC p (.slice (some ⟨u3, 0, none⟩) p.sib.length c3))) y7.heap.size p (.slice (some ⟨u1, 0, none⟩) p.sib.length c1)) := (setRow_other _ _ _ _ (by omega)).trans HG9_5.out
        have HO10_1 : Hid (OwnD ((y8.setRow y7.heap.size (pfC p (.slice (some ⟨u1, 0, none⟩) p.sib.length c1))).setRow y2.heap.size (pfC p (.slice (some ⟨u3, 0, none⟩) p.sib.length c3))) X.heap.size (.slice (some ⟨u1, 0, none⟩) p.sib.length c1) p.sib) := row11_other HO9_1.out (fun g cs hg hh => (setRow_other _ _ _ _ (by have e : u1 = g := (by simpa [Value.ownBlock] using hg); omega)).trans hh)
        have HO10_3 : Hid (OwnD ((y8.setRow y7.heap.size (pfC p (.slice (some ⟨u1, 0, none⟩) p.sib.length c1))).setRow y2.heap.size (pfC p (.slice (some ⟨u3, 0, none⟩) p.sib.length c3))) X.heap.size (.slice (some ⟨u3, 0, none⟩) p.sib.length c3) p.sib) := row11_other HO9_3.out (fun g cs hg hh => (setRow_other _ _ _ _ (by have e : u3 = g := (by simpa [Value.ownBlock] using hg); omega)).trans hh)
        have hb10 : Below X.heap.size X ((y8.setRow y7.heap.size (pfC p (.slice (some ⟨u1, 0, none⟩) p.sib.length c1))).setRow y2.heap.size (pfC p (.slice (some ⟨u3, 0, none⟩) p.sib.length c3))) := Bt.below_row (hb9) hg6 _
        refine hK.out _ _ (hb10) (fun hHeld => ?_)
        clear hK K
        try simp only [Act.put, List.setIfInBounds_toArray, List.set_cons_zero, List.set_cons_succ]
        refine wpAnyH_done (by kernel_rfl) ?_ _
        exact HC.out u1 u3 (y7.heap.size) (y2.heap.size) c1 c3 _ HG10_5.out HG10_6.out HO10_1.out HO10_3.out HCC1.out HCC3.out (by omega) (by omega) (by omega) (by omega) (by omega) (by omega) (by omega) hb10
    · skip
      go_simp
      obtain ⟨y11, hy11⟩ : ∃ y, y = y1.alloc (.cells (pfC zPf (.slice none 0 0)) 29) := ⟨_, rfl⟩
      have hb11 : Below X.heap.size X y11 := by rw [hy11]; exact (hb1).alloc (hb1).size _
      have hq : Below y1.heap.size y1 y11 := by rw [hy11]; exact Bt.one_below _ _
      have hs11 : y1.heap.size + 1 ≤ y11.heap.size := by rw [hy11]; simp
      have HO11_1 := Lib.hid (HO1_1.out.below (hq))
      have HG11_5 : Hid (PfAt y11 y1.heap.size zPf (.slice none 0 0)) := by show PfAt _ _ _ _; rw [hy11]; exact PfAt.one _ _ _
      have hg5 : X.heap.size ≤ y1.heap.size := (hb1).size
      rw [← hy11]
      clear hy11 hq
      refine hK.out _ _ (hb11) (fun hHeld => ?_)
      clear hK K
      try simp only [Act.put, List.setIfInBounds_toArray, List.set_cons_zero, List.set_cons_succ]
      refine wpAnyH_ready (rs := [3, 5]) (by kernel_rfl) (by simp) ?_
      refine AllReadyH.cons (o := { dst := some 28, op := .call _, type := _, pos := _, after := _, guard := _ }) rfl (fun K hK => ?_) (AllReadyH.cons (o := { dst := some 6, op := .alloc _, type := _, pos := _, after := _, guard := _ }) rfl (fun K hK => ?_) (AllReadyH.nil))
      · skip
        go_simp
        refine (HCL.out y11 (hb11)).mono ?_
        rintro e y12 ⟨A3, c3, rfl, hN, hb⟩
        have hb12 : Below X.heap.size X y12 := keeps (hb11) hb
        have hs12 : y11.heap.size ≤ y12.heap.size := hb.size
        obtain ⟨u3, rfl, hu3, hv3, hO⟩ := clone_row HNE.out hN
        have HG12_5 := Lib.hid (HG11_5.out.below (hb) HG11_5.out.lt)
        have HO12_1 := Lib.hid (HO11_1.out.below (hb))
        have hgx3 : X.heap.size ≤ y11.heap.size := (hb11).size
        have HO12_3 : Hid (OwnD y12 X.heap.size (.slice (some ⟨u3, 0, none⟩) p.sib.length c3) p.sib) := hO.mono hgx3
        have HCC3 := Lib.hid hN.1
        clear hb hN hO
        go_wp2_with fail
        refine hK.out _ _ (hb12) (fun hHeld => ?_)
        clear hK K
        try simp only [Act.put, List.setIfInBounds_toArray, List.set_cons_zero, List.set_cons_succ]
        refine wpAnyH_ready (rs := [5]) (by kernel_rfl) (by simp) ?_
        refine AllReadyH.cons (o := { dst := some 6, op := .alloc _, type := _, pos := _, after := _, guard := _ }) rfl (fun K hK => ?_) AllReadyH.nil
        go_simp
        obtain ⟨y13, hy13⟩ : ∃ y, y = y12.alloc (.cells (pfC zPf (.slice none 0 0)) 29) := ⟨_, rfl⟩
        have hb13 : Below X.heap.size X y13 := by rw [hy13]; exact (hb12).alloc (hb12).size _
        have hq : Below y12.heap.size y12 y13 := by rw [hy13]; exact Bt.one_below _ _
        have hs13 : y12.heap.size + 1 ≤ y13.heap.size := by rw [hy13]; simp
        have HG13_5 := Lib.hid (HG12_5.out.below (hq) HG12_5.out.lt)
        have HO13_1 := Lib.hid (HO12_1.out.below (hq))
        have HO13_3 := Lib.hid (HO12_3.out.below (hq))
        have HG13_6 : Hid (PfAt y13 y12.heap.size zPf (.slice none 0 0)) := by show PfAt _ _ _ _; rw [hy13]; exact PfAt.one _ _ _
        have hg6 : X.heap.size ≤ y12.heap.size := (hb12).size
        rw [← hy13]
        clear hy13 hq
        refine hK.out _ _ (hb13) (fun hHeld => ?_)
        clear hK K
        try simp only [Act.put, List.setIfInBounds_toArray, List.set_cons_zero, List.set_cons_succ]
        refine wpAnyH_ready (rs := [6]) (by kernel_rfl) (by simp) ?_
        refine AllReadyH.cons (o := { dst := none, op := .store _ (.tmp 5) (.tmp 26), type := _, pos := _, after := _, guard := _ }) rfl (fun K hK => ?_) AllReadyH.nil
        have st14 : stA 29 y13 (.pointer (some ⟨y1.heap.size, 0, none⟩)) (.agg (pfC p (.slice (some ⟨u1, 0, none⟩) p.sib.length c1))) = .ok .skip (y13.setRow y1.heap.size (pfC p (.slice (some ⟨u1, 0, none⟩) p.sib.length c1))) := stA_row HG13_5.out (by rw [pfC_size HPO.out]; exact infoPf) (by rw [pfC_size HPO.out, pfC_size zPf_ok]) (pfC_one _ _ _ _)
        go_simp
        clear st14
        have HG14_5 : Hid (PfAt (y13.setRow y1.heap.size (pfC p (.slice (some ⟨u1, 0, none⟩) p.sib.length c1))) y1.heap.size p (.slice (some ⟨u1, 0, none⟩) p.sib.length c1)) := setRow_heap _ _ _ _ _ _ HG13_5.out
        have HG14_6 : Hid (PfAt (y13.setRow y1.heap.size (pfC p (.slice (some ⟨u1, 0, none⟩) p.sib.length c1))) y12.heap.size zPf (.slice none 0 0)) := (setRow_other _ _ _ _ (by omega)).trans HG13_6.out
        have HO14_1 : Hid (OwnD (y13.setRow y1.heap.size (pfC p (.slice (some ⟨u1, 0, none⟩) p.sib.length c1))) X.heap.size (.slice (some ⟨u1, 0, none⟩) p.sib.length c1) p.sib) := row11_other HO13_1.out (fun g cs hg hh => (setRow_other _ _ _ _ (by have e : u1 = g := (by simpa [Value.ownBlock] using hg); omega)).trans hh)
        have HO14_3 : Hid (OwnD (y13.setRow y1.heap.size (pfC p (.slice (some ⟨u1, 0, none⟩) p.sib.length c1))) X.heap.size (.slice (some ⟨u3, 0, none⟩) p.sib.length c3) p.sib) := row11_other HO13_3.out (fun g cs hg hh => (setRow_other _ _ _ _ (by have e : u3 = g := (by simpa [Value.ownBlock] using hg); omega)).trans hh)
        have hb14 : Below X.heap.size X (y13.setRow y1.heap.size (pfC p (.slice (some ⟨u1, 0, none⟩) p.sib.length c1))) := Bt.below_row (hb13) hg5 _
        refine hK.out _ _ (hb14) (fun hHeld => ?_)
        clear hK K
        try simp only [Act.put, List.setIfInBounds_toArray, List.set_cons_zero, List.set_cons_succ]
        refine wpAnyH_ready (rs := [7]) (by kernel_rfl) (by simp) ?_
        refine AllReadyH.cons (o := { dst := none, op := .store _ (.tmp 6) (.tmp 28), type := _, pos := _, after := _, guard := _ }) rfl (fun K hK => ?_) AllReadyH.nil
        have st15 : stA 29 (y13.setRow y1.heap.size (pfC p (.slice (some ⟨u1, 0, none⟩) p.sib.length c1))) (.pointer (some ⟨y12.heap.size, 0, none⟩)) (.agg (pfC p (.slice (some ⟨u3, 0, none⟩) p.sib.length c3))) = .ok .skip ((y13.setRow y1.heap.size (pfC p (.slice (some ⟨u1, 0, none⟩) p.sib.length c1))).setRow y12.heap.size (pfC p (.slice (some ⟨u3, 0, none⟩) p.sib.length c3))) := stA_row HG14_6.out (by rw [pfC_size HPO.out]; exact infoPf) (by rw [pfC_size HPO.out, pfC_size zPf_ok]) (pfC_one _ _ _ _)
        go_simp
        clear st15
        have HG15_5 : Hid (PfAt ((y13.setRow y1.heap.size (pfC p (.slice (some ⟨u1, 0, none⟩) p.sib.length c1))).setRow y12.heap.size (pfC p (.slice (some ⟨u3, 0, none⟩) p.sib.length c3))) y1.heap.size p (.slice (some ⟨u1, 0, none⟩) p.sib.length c1)) := (setRow_other _ _ _ _ (by omega)).trans HG14_5.out
        have HG15_6 : Hid (PfAt ((y13.setRow y1.heap.size (pfC p (.slice (some ⟨u1, 0, none⟩) p.sib.length c1))).setRow y12.heap.size (pfC p (.slice (some ⟨u3, 0, none⟩) p.sib.length c3))) y12.heap.size p (.slice (some ⟨u3, 0, none⟩) p.sib.length c3)) := setRow_heap _ _ _ _ _ _ HG14_6.out
        have HO15_1 : Hid (OwnD ((y13.setRow y1.heap.size (pfC p (.slice (some ⟨u1, 0, none⟩) p.sib.length c1))).setRow y12.heap.size (pfC p (.slice (some ⟨u3, 0, none⟩) p.sib.length c3))) X.heap.size (.slice (some ⟨u1, 0, none⟩) p.sib.length c1) p.sib) := row11_other HO14_1.out (fun g cs hg hh => (setRow_other _ _ _ _ (by have e : u1 = g := (by simpa [Value.ownBlock] using hg); omega)).trans hh)
        have HO15_3 : Hid (OwnD ((y13.setRow y1.heap.size (pfC p (.slice (some ⟨u1, 0, none⟩) p.sib.length c1))).setRow y12.heap.size (pfC p (.slice (some ⟨u3, 0, none⟩) p.sib.length c3))) X.heap.size (.slice (some ⟨u3, 0, none⟩) p.sib.length c3) p.sib) := row11_other HO14_3.out (fun g cs hg hh => (setRow_other _ _ _ _ (by have e : u3 = g := (by simpa [Value.ownBlock] using hg); omega)).trans hh)
        have hb15 : Below X.heap.size X ((y13.setRow y1.heap.size (pfC p (.slice (some ⟨u1, 0, none⟩) p.sib.length c1))).setRow y12.heap.size (pfC p (.slice (some ⟨u3, 0, none⟩) p.sib.length c3))) := Bt.below_row (hb14) hg6 _
        refine hK.out _ _ (hb15) (fun hHeld => ?_)
        clear hK K
        try simp only [Act.put, List.setIfInBounds_toArray, List.set_cons_zero, List.set_cons_succ]
        refine wpAnyH_done (by kernel_rfl) ?_ _
        exact HC.out u1 u3 (y1.heap.size) (y12.heap.size) c1 c3 _ HG15_5.out HG15_6.out HO15_1.out HO15_3.out HCC1.out HCC3.out (by omega) (by omega) (by omega) (by omega) (by omega) (by omega) (by omega) hb15
      · skip
        go_simp
        obtain ⟨y16, hy16⟩ : ∃ y, y = y11.alloc (.cells (pfC zPf (.slice none 0 0)) 29) := ⟨_, rfl⟩
        have hb16 : Below X.heap.size X y16 := by rw [hy16]; exact (hb11).alloc (hb11).size _
        have hq : Below y11.heap.size y11 y16 := by rw [hy16]; exact Bt.one_below _ _
        have hs16 : y11.heap.size + 1 ≤ y16.heap.size := by rw [hy16]; simp
        have HG16_5 := Lib.hid (HG11_5.out.below (hq) HG11_5.out.lt)
        have HO16_1 := Lib.hid (HO11_1.out.below (hq))
        have HG16_6 : Hid (PfAt y16 y11.heap.size zPf (.slice none 0 0)) := by show PfAt _ _ _ _; rw [hy16]; exact PfAt.one _ _ _
        have hg6 : X.heap.size ≤ y11.heap.size := (hb11).size
        rw [← hy16]
        clear hy16 hq
        refine hK.out _ _ (hb16) (fun hHeld => ?_)
        clear hK K
        try simp only [Act.put, List.setIfInBounds_toArray, List.set_cons_zero, List.set_cons_succ]
        refine wpAnyH_ready (rs := [3]) (by kernel_rfl) (by simp) ?_
        refine AllReadyH.cons (o := { dst := some 28, op := .call _, type := _, pos := _, after := _, guard := _ }) rfl (fun K hK => ?_) AllReadyH.nil
        go_simp
        refine (HCL.out y16 (hb16)).mono ?_
        rintro e y17 ⟨A3, c3, rfl, hN, hb⟩
        have hb17 : Below X.heap.size X y17 := keeps (hb16) hb
        have hs17 : y16.heap.size ≤ y17.heap.size := hb.size
        obtain ⟨u3, rfl, hu3, hv3, hO⟩ := clone_row HNE.out hN
        have HG17_5 := Lib.hid (HG16_5.out.below (hb) HG16_5.out.lt)
        have HG17_6 := Lib.hid (HG16_6.out.below (hb) HG16_6.out.lt)
        have HO17_1 := Lib.hid (HO16_1.out.below (hb))
        have hgx3 : X.heap.size ≤ y16.heap.size := (hb16).size
        have HO17_3 : Hid (OwnD y17 X.heap.size (.slice (some ⟨u3, 0, none⟩) p.sib.length c3) p.sib) := hO.mono hgx3
        have HCC3 := Lib.hid hN.1
        clear hb hN hO
        go_wp2_with fail
        refine hK.out _ _ (hb17) (fun hHeld => ?_)
        clear hK K
        try simp only [Act.put, List.setIfInBounds_toArray, List.set_cons_zero, List.set_cons_succ]
        refine wpAnyH_ready (rs := [6]) (by kernel_rfl) (by simp) ?_
        refine AllReadyH.cons (o := { dst := none, op := .store _ (.tmp 5) (.tmp 26), type := _, pos := _, after := _, guard := _ }) rfl (fun K hK => ?_) AllReadyH.nil
        have st18 : stA 29 y17 (.pointer (some ⟨y1.heap.size, 0, none⟩)) (.agg (pfC p (.slice (some ⟨u1, 0, none⟩) p.sib.length c1))) = .ok .skip (y17.setRow y1.heap.size (pfC p (.slice (some ⟨u1, 0, none⟩) p.sib.length c1))) := stA_row HG17_5.out (by rw [pfC_size HPO.out]; exact infoPf) (by rw [pfC_size HPO.out, pfC_size zPf_ok]) (pfC_one _ _ _ _)
        go_simp
        clear st18
        have HG18_5 : Hid (PfAt (y17.setRow y1.heap.size (pfC p (.slice (some ⟨u1, 0, none⟩) p.sib.length c1))) y1.heap.size p (.slice (some ⟨u1, 0, none⟩) p.sib.length c1)) := setRow_heap _ _ _ _ _ _ HG17_5.out
        have HG18_6 : Hid (PfAt (y17.setRow y1.heap.size (pfC p (.slice (some ⟨u1, 0, none⟩) p.sib.length c1))) y11.heap.size zPf (.slice none 0 0)) := (setRow_other _ _ _ _ (by omega)).trans HG17_6.out
        have HO18_1 : Hid (OwnD (y17.setRow y1.heap.size (pfC p (.slice (some ⟨u1, 0, none⟩) p.sib.length c1))) X.heap.size (.slice (some ⟨u1, 0, none⟩) p.sib.length c1) p.sib) := row11_other HO17_1.out (fun g cs hg hh => (setRow_other _ _ _ _ (by have e : u1 = g := (by simpa [Value.ownBlock] using hg); omega)).trans hh)
        have HO18_3 : Hid (OwnD (y17.setRow y1.heap.size (pfC p (.slice (some ⟨u1, 0, none⟩) p.sib.length c1))) X.heap.size (.slice (some ⟨u3, 0, none⟩) p.sib.length c3) p.sib) := row11_other HO17_3.out (fun g cs hg hh => (setRow_other _ _ _ _ (by have e : u3 = g := (by simpa [Value.ownBlock] using hg); omega)).trans hh)
        have hb18 : Below X.heap.size X (y17.setRow y1.heap.size (pfC p (.slice (some ⟨u1, 0, none⟩) p.sib.length c1))) := Bt.below_row (hb17) hg5 _
        refine hK.out _ _ (hb18) (fun hHeld => ?_)
        clear hK K
        try simp only [Act.put, List.setIfInBounds_toArray, List.set_cons_zero, List.set_cons_succ]
        refine wpAnyH_ready (rs := [7]) (by kernel_rfl) (by simp) ?_
        refine AllReadyH.cons (o := { dst := none, op := .store _ (.tmp 6) (.tmp 28), type := _, pos := _, after := _, guard := _ }) rfl (fun K hK => ?_) AllReadyH.nil
        have st19 : stA 29 (y17.setRow y1.heap.size (pfC p (.slice (some ⟨u1, 0, none⟩) p.sib.length c1))) (.pointer (some ⟨y11.heap.size, 0, none⟩)) (.agg (pfC p (.slice (some ⟨u3, 0, none⟩) p.sib.length c3))) = .ok .skip ((y17.setRow y1.heap.size (pfC p (.slice (some ⟨u1, 0, none⟩) p.sib.length c1))).setRow y11.heap.size (pfC p (.slice (some ⟨u3, 0, none⟩) p.sib.length c3))) := stA_row HG18_6.out (by rw [pfC_size HPO.out]; exact infoPf) (by rw [pfC_size HPO.out, pfC_size zPf_ok]) (pfC_one _ _ _ _)
        go_simp
        clear st19
        have HG19_5 : Hid (PfAt ((y17.setRow y1.heap.size (pfC p (.slice (some ⟨u1, 0, none⟩) p.sib.length c1))).setRow y11.heap.size (pfC p (.slice (some ⟨u3, 0, none⟩) p.sib.length c3))) y1.heap.size p (.slice (some ⟨u1, 0, none⟩) p.sib.length c1)) := (setRow_other _ _ _ _ (by omega)).trans HG18_5.out
        have HG19_6 : Hid (PfAt ((y17.setRow y1.heap.size (pfC p (.slice (some ⟨u1, 0, none⟩) p.sib.length c1))).setRow y11.heap.size (pfC p (.slice (some ⟨u3, 0, none⟩) p.sib.length c3))) y11.heap.size p (.slice (some ⟨u3, 0, none⟩) p.sib.length c3)) := setRow_heap _ _ _ _ _ _ HG18_6.out
        have HO19_1 : Hid (OwnD ((y17.setRow y1.heap.size (pfC p (.slice (some ⟨u1, 0, none⟩) p.sib.length c1))).setRow y11.heap.size (pfC p (.slice (some ⟨u3, 0, none⟩) p.sib.length c3))) X.heap.size (.slice (some ⟨u1, 0, none⟩) p.sib.length c1) p.sib) := row11_other HO18_1.out (fun g cs hg hh => (setRow_other _ _ _ _ (by have e : u1 = g := (by simpa [Value.ownBlock] using hg); omega)).trans hh)
        have HO19_3 : Hid (OwnD ((y17.setRow y1.heap.size (pfC p (.slice (some ⟨u1, 0, none⟩) p.sib.length c1))).setRow y11.heap.size (pfC p (.slice (some ⟨u3, 0, none⟩) p.sib.length c3))) X.heap.size (.slice (some ⟨u3, 0, none⟩) p.sib.length c3) p.sib) := row11_other HO18_3.out (fun g cs hg hh => (setRow_other _ _ _ _ (by have e : u3 = g := (by simpa [Value.ownBlock] using hg); omega)).trans hh)
        have hb19 : Below X.heap.size X ((y17.setRow y1.heap.size (pfC p (.slice (some ⟨u1, 0, none⟩) p.sib.length c1))).setRow y11.heap.size (pfC p (.slice (some ⟨u3, 0, none⟩) p.sib.length c3))) := Bt.below_row (hb18) hg6 _
        refine hK.out _ _ (hb19) (fun hHeld => ?_)
        clear hK K
        try simp only [Act.put, List.setIfInBounds_toArray, List.set_cons_zero, List.set_cons_succ]
        refine wpAnyH_done (by kernel_rfl) ?_ _
        exact HC.out u1 u3 (y1.heap.size) (y11.heap.size) c1 c3 _ HG19_5.out HG19_6.out HO19_1.out HO19_3.out HCC1.out HCC3.out (by omega) (by omega) (by omega) (by omega) (by omega) (by omega) (by omega) hb19
    · skip
      go_simp
      obtain ⟨y20, hy20⟩ : ∃ y, y = y1.alloc (.cells (pfC zPf (.slice none 0 0)) 29) := ⟨_, rfl⟩
      have hb20 : Below X.heap.size X y20 := by rw [hy20]; exact (hb1).alloc (hb1).size _
      have hq : Below y1.heap.size y1 y20 := by rw [hy20]; exact Bt.one_below _ _
      have hs20 : y1.heap.size + 1 ≤ y20.heap.size := by rw [hy20]; simp
      have HO20_1 := Lib.hid (HO1_1.out.below (hq))
      have HG20_6 : Hid (PfAt y20 y1.heap.size zPf (.slice none 0 0)) := by show PfAt _ _ _ _; rw [hy20]; exact PfAt.one _ _ _
      have hg6 : X.heap.size ≤ y1.heap.size := (hb1).size
      rw [← hy20]
      clear hy20 hq
      refine hK.out _ _ (hb20) (fun hHeld => ?_)
      clear hK K
      try simp only [Act.put, List.setIfInBounds_toArray, List.set_cons_zero, List.set_cons_succ]
      refine wpAnyH_ready (rs := [3, 4]) (by kernel_rfl) (by simp) ?_
      refine AllReadyH.cons (o := { dst := some 28, op := .call _, type := _, pos := _, after := _, guard := _ }) rfl (fun K hK => ?_) (AllReadyH.cons (o := { dst := some 5, op := .alloc _, type := _, pos := _, after := _, guard := _ }) rfl (fun K hK => ?_) (AllReadyH.nil))
      · skip
        go_simp
        refine (HCL.out y20 (hb20)).mono ?_
        rintro e y21 ⟨A3, c3, rfl, hN, hb⟩
        have hb21 : Below X.heap.size X y21 := keeps (hb20) hb
        have hs21 : y20.heap.size ≤ y21.heap.size := hb.size
        obtain ⟨u3, rfl, hu3, hv3, hO⟩ := clone_row HNE.out hN
        have HG21_6 := Lib.hid (HG20_6.out.below (hb) HG20_6.out.lt)
        have HO21_1 := Lib.hid (HO20_1.out.below (hb))
        have hgx3 : X.heap.size ≤ y20.heap.size := (hb20).size
        have HO21_3 : Hid (OwnD y21 X.heap.size (.slice (some ⟨u3, 0, none⟩) p.sib.length c3) p.sib) := hO.mono hgx3
        have HCC3 := Lib.hid hN.1
        clear hb hN hO
        go_wp2_with fail
        refine hK.out _ _ (hb21) (fun hHeld => ?_)
        clear hK K
        try simp only [Act.put, List.setIfInBounds_toArray, List.set_cons_zero, List.set_cons_succ]
        refine wpAnyH_ready (rs := [4]) (by kernel_rfl) (by simp) ?_
        refine AllReadyH.cons (o := { dst := some 5, op := .alloc _, type := _, pos := _, after := _, guard := _ }) rfl (fun K hK => ?_) AllReadyH.nil
        go_simp
        obtain ⟨y22, hy22⟩ : ∃ y, y = y21.alloc (.cells (pfC zPf (.slice none 0 0)) 29) := ⟨_, rfl⟩
        have hb22 : Below X.heap.size X y22 := by rw [hy22]; exact (hb21).alloc (hb21).size _
        have hq : Below y21.heap.size y21 y22 := by rw [hy22]; exact Bt.one_below _ _
        have hs22 : y21.heap.size + 1 ≤ y22.heap.size := by rw [hy22]; simp
        have HG22_6 := Lib.hid (HG21_6.out.below (hq) HG21_6.out.lt)
        have HO22_1 := Lib.hid (HO21_1.out.below (hq))
        have HO22_3 := Lib.hid (HO21_3.out.below (hq))
        have HG22_5 : Hid (PfAt y22 y21.heap.size zPf (.slice none 0 0)) := by show PfAt _ _ _ _; rw [hy22]; exact PfAt.one _ _ _
        have hg5 : X.heap.size ≤ y21.heap.size := (hb21).size
        rw [← hy22]
        clear hy22 hq
        refine hK.out _ _ (hb22) (fun hHeld => ?_)
        clear hK K
        try simp only [Act.put, List.setIfInBounds_toArray, List.set_cons_zero, List.set_cons_succ]
        refine wpAnyH_ready (rs := [6]) (by kernel_rfl) (by simp) ?_
        refine AllReadyH.cons (o := { dst := none, op := .store _ (.tmp 5) (.tmp 26), type := _, pos := _, after := _, guard := _ }) rfl (fun K hK => ?_) AllReadyH.nil
        have st23 : stA 29 y22 (.pointer (some ⟨y21.heap.size, 0, none⟩)) (.agg (pfC p (.slice (some ⟨u1, 0, none⟩) p.sib.length c1))) = .ok .skip (y22.setRow y21.heap.size (pfC p (.slice (some ⟨u1, 0, none⟩) p.sib.length c1))) := stA_row HG22_5.out (by rw [pfC_size HPO.out]; exact infoPf) (by rw [pfC_size HPO.out, pfC_size zPf_ok]) (pfC_one _ _ _ _)
        go_simp
        clear st23
        have HG23_6 : Hid (PfAt (y22.setRow y21.heap.size (pfC p (.slice (some ⟨u1, 0, none⟩) p.sib.length c1))) y1.heap.size zPf (.slice none 0 0)) := (setRow_other _ _ _ _ (by omega)).trans HG22_6.out
        have HG23_5 : Hid (PfAt (y22.setRow y21.heap.size (pfC p (.slice (some ⟨u1, 0, none⟩) p.sib.length c1))) y21.heap.size p (.slice (some ⟨u1, 0, none⟩) p.sib.length c1)) := setRow_heap _ _ _ _ _ _ HG22_5.out
        have HO23_1 : Hid (OwnD (y22.setRow y21.heap.size (pfC p (.slice (some ⟨u1, 0, none⟩) p.sib.length c1))) X.heap.size (.slice (some ⟨u1, 0, none⟩) p.sib.length c1) p.sib) := row11_other HO22_1.out (fun g cs hg hh => (setRow_other _ _ _ _ (by have e : u1 = g := (by simpa [Value.ownBlock] using hg); omega)).trans hh)
        have HO23_3 : Hid (OwnD (y22.setRow y21.heap.size (pfC p (.slice (some ⟨u1, 0, none⟩) p.sib.length c1))) X.heap.size (.slice (some ⟨u3, 0, none⟩) p.sib.length c3) p.sib) := row11_other HO22_3.out (fun g cs hg hh => (setRow_other _ _ _ _ (by have e : u3 = g := (by simpa [Value.ownBlock] using hg); omega)).trans hh)
        have hb23 : Below X.heap.size X (y22.setRow y21.heap.size (pfC p (.slice (some ⟨u1, 0, none⟩) p.sib.length c1))) := Bt.below_row (hb22) hg5 _
        refine hK.out _ _ (hb23) (fun hHeld => ?_)
        clear hK K
        try simp only [Act.put, List.setIfInBounds_toArray, List.set_cons_zero, List.set_cons_succ]
        refine wpAnyH_ready (rs := [7]) (by kernel_rfl) (by simp) ?_
        refine AllReadyH.cons (o := { dst := none, op := .store _ (.tmp 6) (.tmp 28), type := _, pos := _, after := _, guard := _ }) rfl (fun K hK => ?_) AllReadyH.nil
        have st24 : stA 29 (y22.setRow y21.heap.size (pfC p (.slice (some ⟨u1, 0, none⟩) p.sib.length c1))) (.pointer (some ⟨y1.heap.size, 0, none⟩)) (.agg (pfC p (.slice (some ⟨u3, 0, none⟩) p.sib.length c3))) = .ok .skip ((y22.setRow y21.heap.size (pfC p (.slice (some ⟨u1, 0, none⟩) p.sib.length c1))).setRow y1.heap.size (pfC p (.slice (some ⟨u3, 0, none⟩) p.sib.length c3))) := stA_row HG23_6.out (by rw [pfC_size HPO.out]; exact infoPf) (by rw [pfC_size HPO.out, pfC_size zPf_ok]) (pfC_one _ _ _ _)
        go_simp
        clear st24
        have HG24_6 : Hid (PfAt ((y22.setRow y21.heap.size (pfC p (.slice (some ⟨u1, 0, none⟩) p.sib.length c1))).setRow y1.heap.size (pfC p (.slice (some ⟨u3, 0, none⟩) p.sib.length c3))) y1.heap.size p (.slice (some ⟨u3, 0, none⟩) p.sib.length c3)) := setRow_heap _ _ _ _ _ _ HG23_6.out
        have HG24_5 : Hid (PfAt ((y22.setRow y21.heap.size (pfC p (.slice (some ⟨u1, 0, none⟩) p.sib.length c1))).setRow y1.heap.size (pfC p (.slice (some ⟨u3, 0, none⟩) p.sib.length c3))) y21.heap.size p (.slice (some ⟨u1, 0, none⟩) p.sib.length c1)) := (setRow_other _ _ _ _ (by omega)).trans HG23_5.out
        have HO24_1 : Hid (OwnD ((y22.setRow y21.heap.size (pfC p (.slice (some ⟨u1, 0, none⟩) p.sib.length c1))).setRow y1.heap.size (pfC p (.slice (some ⟨u3, 0, none⟩) p.sib.length c3))) X.heap.size (.slice (some ⟨u1, 0, none⟩) p.sib.length c1) p.sib) := row11_other HO23_1.out (fun g cs hg hh => (setRow_other _ _ _ _ (by have e : u1 = g := (by simpa [Value.ownBlock] using hg); omega)).trans hh)
        have HO24_3 : Hid (OwnD ((y22.setRow y21.heap.size (pfC p (.slice (some ⟨u1, 0, none⟩) p.sib.length c1))).setRow y1.heap.size (pfC p (.slice (some ⟨u3, 0, none⟩) p.sib.length c3))) X.heap.size (.slice (some ⟨u3, 0, none⟩) p.sib.length c3) p.sib) := row11_other HO23_3.out (fun g cs hg hh => (setRow_other _ _ _ _ (by have e : u3 = g := (by simpa [Value.ownBlock] using hg); omega)).trans hh)
        have hb24 : Below X.heap.size X ((y22.setRow y21.heap.size (pfC p (.slice (some ⟨u1, 0, none⟩) p.sib.length c1))).setRow y1.heap.size (pfC p (.slice (some ⟨u3, 0, none⟩) p.sib.length c3))) := Bt.below_row (hb23) hg6 _
        refine hK.out _ _ (hb24) (fun hHeld => ?_)
        clear hK K
        try simp only [Act.put, List.setIfInBounds_toArray, List.set_cons_zero, List.set_cons_succ]
        refine wpAnyH_done (by kernel_rfl) ?_ _
        exact HC.out u1 u3 (y21.heap.size) (y1.heap.size) c1 c3 _ HG24_5.out HG24_6.out HO24_1.out HO24_3.out HCC1.out HCC3.out (by omega) (by omega) (by omega) (by omega) (by omega) (by omega) (by omega) hb24
      · skip
        go_simp
        obtain ⟨y25, hy25⟩ : ∃ y, y = y20.alloc (.cells (pfC zPf (.slice none 0 0)) 29) := ⟨_, rfl⟩
        have hb25 : Below X.heap.size X y25 := by rw [hy25]; exact (hb20).alloc (hb20).size _
        have hq : Below y20.heap.size y20 y25 := by rw [hy25]; exact Bt.one_below _ _
        have hs25 : y20.heap.size + 1 ≤ y25.heap.size := by rw [hy25]; simp
        have HG25_6 := Lib.hid (HG20_6.out.below (hq) HG20_6.out.lt)
        have HO25_1 := Lib.hid (HO20_1.out.below (hq))
        have HG25_5 : Hid (PfAt y25 y20.heap.size zPf (.slice none 0 0)) := by show PfAt _ _ _ _; rw [hy25]; exact PfAt.one _ _ _
        have hg5 : X.heap.size ≤ y20.heap.size := (hb20).size
        rw [← hy25]
        clear hy25 hq
        refine hK.out _ _ (hb25) (fun hHeld => ?_)
        clear hK K
        try simp only [Act.put, List.setIfInBounds_toArray, List.set_cons_zero, List.set_cons_succ]
        refine wpAnyH_ready (rs := [3]) (by kernel_rfl) (by simp) ?_
        refine AllReadyH.cons (o := { dst := some 28, op := .call _, type := _, pos := _, after := _, guard := _ }) rfl (fun K hK => ?_) AllReadyH.nil
        go_simp
        refine (HCL.out y25 (hb25)).mono ?_
        rintro e y26 ⟨A3, c3, rfl, hN, hb⟩
        have hb26 : Below X.heap.size X y26 := keeps (hb25) hb
        have hs26 : y25.heap.size ≤ y26.heap.size := hb.size
        obtain ⟨u3, rfl, hu3, hv3, hO⟩ := clone_row HNE.out hN
        have HG26_6 := Lib.hid (HG25_6.out.below (hb) HG25_6.out.lt)
        have HG26_5 := Lib.hid (HG25_5.out.below (hb) HG25_5.out.lt)
        have HO26_1 := Lib.hid (HO25_1.out.below (hb))
        have hgx3 : X.heap.size ≤ y25.heap.size := (hb25).size
        have HO26_3 : Hid (OwnD y26 X.heap.size (.slice (some ⟨u3, 0, none⟩) p.sib.length c3) p.sib) := hO.mono hgx3
        have HCC3 := Lib.hid hN.1
        clear hb hN hO
        go_wp2_with fail
        refine hK.out _ _ (hb26) (fun hHeld => ?_)
        clear hK K
        try simp only [Act.put, List.setIfInBounds_toArray, List.set_cons_zero, List.set_cons_succ]
        refine wpAnyH_ready (rs := [6]) (by kernel_rfl) (by simp) ?_
        refine AllReadyH.cons (o := { dst := none, op := .store _ (.tmp 5) (.tmp 26), type := _, pos := _, after := _, guard := _ }) rfl (fun K hK => ?_) AllReadyH.nil
        have st27 : stA 29 y26 (.pointer (some ⟨y20.heap.size, 0, none⟩)) (.agg (pfC p (.slice (some ⟨u1, 0, none⟩) p.sib.length c1))) = .ok .skip (y26.setRow y20.heap.size (pfC p (.slice (some ⟨u1, 0, none⟩) p.sib.length c1))) := stA_row HG26_5.out (by rw [pfC_size HPO.out]; exact infoPf) (by rw [pfC_size HPO.out, pfC_size zPf_ok]) (pfC_one _ _ _ _)
        go_simp
        clear st27
        have HG27_6 : Hid (PfAt (y26.setRow y20.heap.size (pfC p (.slice (some ⟨u1, 0, none⟩) p.sib.length c1))) y1.heap.size zPf (.slice none 0 0)) := (setRow_other _ _ _ _ (by omega)).trans HG26_6.out
        have HG27_5 : Hid (PfAt (y26.setRow y20.heap.size (pfC p (.slice (some ⟨u1, 0, none⟩) p.sib.length c1))) y20.heap.size p (.slice (some ⟨u1, 0, none⟩) p.sib.length c1)) := setRow_heap _ _ _ _ _ _ HG26_5.out
        have HO27_1 : Hid (OwnD (y26.setRow y20.heap.size (pfC p (.slice (some ⟨u1, 0, none⟩) p.sib.length c1))) X.heap.size (.slice (some ⟨u1, 0, none⟩) p.sib.length c1) p.sib) := row11_other HO26_1.out (fun g cs hg hh => (setRow_other _ _ _ _ (by have e : u1 = g := (by simpa [Value.ownBlock] using hg); omega)).trans hh)
        have HO27_3 : Hid (OwnD (y26.setRow y20.heap.size (pfC p (.slice (some ⟨u1, 0, none⟩) p.sib.length c1))) X.heap.size (.slice (some ⟨u3, 0, none⟩) p.sib.length c3) p.sib) := row11_other HO26_3.out (fun g cs hg hh => (setRow_other _ _ _ _ (by have e : u3 = g := (by simpa [Value.ownBlock] using hg); omega)).trans hh)
        have hb27 : Below X.heap.size X (y26.setRow y20.heap.size (pfC p (.slice (some ⟨u1, 0, none⟩) p.sib.length c1))) := Bt.below_row (hb26) hg5 _
        refine hK.out _ _ (hb27) (fun hHeld => ?_)
        clear hK K
        try simp only [Act.put, List.setIfInBounds_toArray, List.set_cons_zero, List.set_cons_succ]
        refine wpAnyH_ready (rs := [7]) (by kernel_rfl) (by simp) ?_
        refine AllReadyH.cons (o := { dst := none, op := .store _ (.tmp 6) (.tmp 28), type := _, pos := _, after := _, guard := _ }) rfl (fun K hK => ?_) AllReadyH.nil
        have st28 : stA 29 (y26.setRow y20.heap.size (pfC p (.slice (some ⟨u1, 0, none⟩) p.sib.length c1))) (.pointer (some ⟨y1.heap.size, 0, none⟩)) (.agg (pfC p (.slice (some ⟨u3, 0, none⟩) p.sib.length c3))) = .ok .skip ((y26.setRow y20.heap.size (pfC p (.slice (some ⟨u1, 0, none⟩) p.sib.length c1))).setRow y1.heap.size (pfC p (.slice (some ⟨u3, 0, none⟩) p.sib.length c3))) := stA_row HG27_6.out (by rw [pfC_size HPO.out]; exact infoPf) (by rw [pfC_size HPO.out, pfC_size zPf_ok]) (pfC_one _ _ _ _)
        go_simp
        clear st28
        have HG28_6 : Hid (PfAt ((y26.setRow y20.heap.size (pfC p (.slice (some ⟨u1, 0, none⟩) p.sib.length c1))).setRow y1.heap.size (pfC p (.slice (some ⟨u3, 0, none⟩) p.sib.length c3))) y1.heap.size p (.slice (some ⟨u3, 0, none⟩) p.sib.length c3)) := setRow_heap _ _ _ _ _ _ HG27_6.out
        have HG28_5 : Hid (PfAt ((y26.setRow y20.heap.size (pfC p (.slice (some ⟨u1, 0, none⟩) p.sib.length c1))).setRow y1.heap.size (pfC p (.slice (some ⟨u3, 0, none⟩) p.sib.length c3))) y20.heap.size p (.slice (some ⟨u1, 0, none⟩) p.sib.length c1)) := (setRow_other _ _ _ _ (by omega)).trans HG27_5.out
        have HO28_1 : Hid (OwnD ((y26.setRow y20.heap.size (pfC p (.slice (some ⟨u1, 0, none⟩) p.sib.length c1))).setRow y1.heap.size (pfC p (.slice (some ⟨u3, 0, none⟩) p.sib.length c3))) X.heap.size (.slice (some ⟨u1, 0, none⟩) p.sib.length c1) p.sib) := row11_other HO27_1.out (fun g cs hg hh => (setRow_other _ _ _ _ (by have e : u1 = g := (by simpa [Value.ownBlock] using hg); omega)).trans hh)
        have HO28_3 : Hid (OwnD ((y26.setRow y20.heap.size (pfC p (.slice (some ⟨u1, 0, none⟩) p.sib.length c1))).setRow y1.heap.size (pfC p (.slice (some ⟨u3, 0, none⟩) p.sib.length c3))) X.heap.size (.slice (some ⟨u3, 0, none⟩) p.sib.length c3) p.sib) := row11_other HO27_3.out (fun g cs hg hh => (setRow_other _ _ _ _ (by have e : u3 = g := (by simpa [Value.ownBlock] using hg); omega)).trans hh)
        have hb28 : Below X.heap.size X ((y26.setRow y20.heap.size (pfC p (.slice (some ⟨u1, 0, none⟩) p.sib.length c1))).setRow y1.heap.size (pfC p (.slice (some ⟨u3, 0, none⟩) p.sib.length c3))) := Bt.below_row (hb27) hg6 _
        refine hK.out _ _ (hb28) (fun hHeld => ?_)
        clear hK K
        try simp only [Act.put, List.setIfInBounds_toArray, List.set_cons_zero, List.set_cons_succ]
        refine wpAnyH_done (by kernel_rfl) ?_ _
        exact HC.out u1 u3 (y20.heap.size) (y1.heap.size) c1 c3 _ HG28_5.out HG28_6.out HO28_1.out HO28_3.out HCC1.out HCC3.out (by omega) (by omega) (by omega) (by omega) (by omega) (by omega) (by omega) hb28
  · skip
    go_simp
    obtain ⟨y29, hy29⟩ : ∃ y, y = y0.alloc (.cells (pfC zPf (.slice none 0 0)) 29) := ⟨_, rfl⟩
    have hb29 : Below X.heap.size X y29 := by rw [hy29]; exact (hb0).alloc (hb0).size _
    have hq : Below y0.heap.size y0 y29 := by rw [hy29]; exact Bt.one_below _ _
    have hs29 : y0.heap.size + 1 ≤ y29.heap.size := by rw [hy29]; simp
    have HG29_5 : Hid (PfAt y29 y0.heap.size zPf (.slice none 0 0)) := by show PfAt _ _ _ _; rw [hy29]; exact PfAt.one _ _ _
    have hg5 : X.heap.size ≤ y0.heap.size := (hb0).size
    rw [← hy29]
    clear hy29 hq
    refine hK.out _ _ (hb29) (fun hHeld => ?_)
    clear hK K
    try simp only [Act.put, List.setIfInBounds_toArray, List.set_cons_zero, List.set_cons_succ]
    refine wpAnyH_ready (rs := [1, 5]) (by kernel_rfl) (by simp) ?_
    refine AllReadyH.cons (o := { dst := some 26, op := .call _, type := _, pos := _, after := _, guard := _ }) rfl (fun K hK => ?_) (AllReadyH.cons (o := { dst := some 6, op := .alloc _, type := _, pos := _, after := _, guard := _ }) rfl (fun K hK => ?_) (AllReadyH.nil))
    · skip
      go_simp
      refine (HCL.out y29 (hb29)).mono ?_
      rintro e y30 ⟨A1, c1, rfl, hN, hb⟩
      have hb30 : Below X.heap.size X y30 := keeps (hb29) hb
      have hs30 : y29.heap.size ≤ y30.heap.size := hb.size
      obtain ⟨u1, rfl, hu1, hv1, hO⟩ := clone_row HNE.out hN
      have HG30_5 := Lib.hid (HG29_5.out.below (hb) HG29_5.out.lt)
      have hgx1 : X.heap.size ≤ y29.heap.size := (hb29).size
      have HO30_1 : Hid (OwnD y30 X.heap.size (.slice (some ⟨u1, 0, none⟩) p.sib.length c1) p.sib) := hO.mono hgx1
      have HCC1 := Lib.hid hN.1
      clear hb hN hO
      go_wp2_with fail
      refine hK.out _ _ (hb30) (fun hHeld => ?_)
      clear hK K
      try simp only [Act.put, List.setIfInBounds_toArray, List.set_cons_zero, List.set_cons_succ]
      refine wpAnyH_ready (rs := [3, 5]) (by kernel_rfl) (by simp) ?_
      refine AllReadyH.cons (o := { dst := some 28, op := .call _, type := _, pos := _, after := _, guard := _ }) rfl (fun K hK => ?_) (AllReadyH.cons (o := { dst := some 6, op := .alloc _, type := _, pos := _, after := _, guard := _ }) rfl (fun K hK => ?_) (AllReadyH.nil))
      · skip
        go_simp
        refine (HCL.out y30 (hb30)).mono ?_
        rintro e y31 ⟨A3, c3, rfl, hN, hb⟩
        have hb31 : Below X.heap.size X y31 := keeps (hb30) hb
        have hs31 : y30.heap.size ≤ y31.heap.size := hb.size
        obtain ⟨u3, rfl, hu3, hv3, hO⟩ := clone_row HNE.out hN
        have HG31_5 := Lib.hid (HG30_5.out.below (hb) HG30_5.out.lt)
        have HO31_1 := Lib.hid (HO30_1.out.below (hb))
        have hgx3 : X.heap.size ≤ y30.heap.size := (hb30).size
        have HO31_3 : Hid (OwnD y31 X.heap.size (.slice (some ⟨u3, 0, none⟩) p.sib.length c3) p.sib) := hO.mono hgx3
        have HCC3 := Lib.hid hN.1
        clear hb hN hO
        go_wp2_with fail
        refine hK.out _ _ (hb31) (fun hHeld => ?_)
        clear hK K
        try simp only [Act.put, List.setIfInBounds_toArray, List.set_cons_zero, List.set_cons_succ]
        refine wpAnyH_ready (rs := [5]) (by kernel_rfl) (by simp) ?_
        refine AllReadyH.cons (o := { dst := some 6, op := .alloc _, type := _, pos := _, after := _, guard := _ }) rfl (fun K hK => ?_) AllReadyH.nil
        go_simp
        obtain ⟨y32, hy32⟩ : ∃ y, y = y31.alloc (.cells (pfC zPf (.slice none 0 0)) 29) := ⟨_, rfl⟩
        have hb32 : Below X.heap.size X y32 := by rw [hy32]; exact (hb31).alloc (hb31).size _
        have hq : Below y31.heap.size y31 y32 := by rw [hy32]; exact Bt.one_below _ _
        have hs32 : y31.heap.size + 1 ≤ y32.heap.size := by rw [hy32]; simp
        have HG32_5 := Lib.hid (HG31_5.out.below (hq) HG31_5.out.lt)
        have HO32_1 := Lib.hid (HO31_1.out.below (hq))
        have HO32_3 := Lib.hid (HO31_3.out.below (hq))
        have HG32_6 : Hid (PfAt y32 y31.heap.size zPf (.slice none 0 0)) := by show PfAt _ _ _ _; rw [hy32]; exact PfAt.one _ _ _
        have hg6 : X.heap.size ≤ y31.heap.size := (hb31).size
        rw [← hy32]
        clear hy32 hq
        refine hK.out _ _ (hb32) (fun hHeld => ?_)
        clear hK K
        try simp only [Act.put, List.setIfInBounds_toArray, List.set_cons_zero, List.set_cons_succ]
        refine wpAnyH_ready (rs := [6]) (by kernel_rfl) (by simp) ?_
        refine AllReadyH.cons (o := { dst := none, op := .store _ (.tmp 5) (.tmp 26), type := _, pos := _, after := _, guard := _ }) rfl (fun K hK => ?_) AllReadyH.nil
        have st33 : stA 29 y32 (.pointer (some ⟨y0.heap.size, 0, none⟩)) (.agg (pfC p (.slice (some ⟨u1, 0, none⟩) p.sib.length c1))) = .ok .skip (y32.setRow y0.heap.size (pfC p (.slice (some ⟨u1, 0, none⟩) p.sib.length c1))) := stA_row HG32_5.out (by rw [pfC_size HPO.out]; exact infoPf) (by rw [pfC_size HPO.out, pfC_size zPf_ok]) (pfC_one _ _ _ _)
        go_simp
        clear st33
        have HG33_5 : Hid (PfAt (y32.setRow y0.heap.size (pfC p (.slice (some ⟨u1, 0, none⟩) p.sib.length c1))) y0.heap.size p (.slice (some ⟨u1, 0, none⟩) p.sib.length c1)) := setRow_heap _ _ _ _ _ _ HG32_5.out
        have HG33_6 : Hid (PfAt (y32.setRow y0.heap.size (pfC p (.slice (some ⟨u1, 0, none⟩) p.sib.length c1))) y31.heap.size zPf (.slice none 0 0)) := (setRow_other _ _ _ _ (by omega)).trans HG32_6.out
        have HO33_1 : Hid (OwnD (y32.setRow y0.heap.size (pfC p (.slice (some ⟨u1, 0, none⟩) p.sib.length c1))) X.heap.size (.slice (some ⟨u1, 0, none⟩) p.sib.length c1) p.sib) := row11_other HO32_1.out (fun g cs hg hh => (setRow_other _ _ _ _ (by have e : u1 = g := (by simpa [Value.ownBlock] using hg); omega)).trans hh)
        have HO33_3 : Hid (OwnD (y32.setRow y0.heap.size (pfC p (.slice (some ⟨u1, 0, none⟩) p.sib.length c1))) X.heap.size (.slice (some ⟨u3, 0, none⟩) p.sib.length c3) p.sib) := row11_other HO32_3.out (fun g cs hg hh => (setRow_other _ _ _ _ (by have e : u3 = g := (by simpa [Value.ownBlock] using hg); omega)).trans hh)
        have hb33 : Below X.heap.size X (y32.setRow y0.heap.size (pfC p (.slice (some ⟨u1, 0, none⟩) p.sib.length c1))) := Bt.below_row (hb32) hg5 _
        refine hK.out _ _ (hb33) (fun hHeld => ?_)
        clear hK K
        try simp only [Act.put, List.setIfInBounds_toArray, List.set_cons_zero, List.set_cons_succ]
        refine wpAnyH_ready (rs := [7]) (by kernel_rfl) (by simp) ?_
        refine AllReadyH.cons (o := { dst := none, op := .store _ (.tmp 6) (.tmp 28), type := _, pos := _, after := _, guard := _ }) rfl (fun K hK => ?_) AllReadyH.nil
        have st34 : stA 29 (y32.setRow y0.heap.size (pfC p (.slice (some ⟨u1, 0, none⟩) p.sib.length c1))) (.pointer (some ⟨y31.heap.size, 0, none⟩)) (.agg (pfC p (.slice (some ⟨u3, 0, none⟩) p.sib.length c3))) = .ok .skip ((y32.setRow y0.heap.size (pfC p (.slice (some ⟨u1, 0, none⟩) p.sib.length c1))).setRow y31.heap.size (pfC p (.slice (some ⟨u3, 0, none⟩) p.sib.length c3))) := stA_row HG33_6.out (by rw [pfC_size HPO.out]; exact infoPf) (by rw [pfC_size HPO.out, pfC_size zPf_ok]) (pfC_one _ _ _ _)
        go_simp
        clear st34
        have HG34_5 : Hid (PfAt ((y32.setRow y0.heap.size (pfC p (.slice (some ⟨u1, 0, none⟩) p.sib.length c1))).setRow y31.heap.size (pfC p (.slice (some ⟨u3, 0, none⟩) p.sib.length c3))) y0.heap.size p (.slice (some ⟨u1, 0, none⟩) p.sib.length c1)) := (setRow_other _ _ _ _ (by omega)).trans HG33_5.out
        have HG34_6 : Hid (PfAt ((y32.setRow y0.heap.size (pfC p (.slice (some ⟨u1, 0, none⟩) p.sib.length c1))).setRow y31.heap.size (pfC p (.slice (some ⟨u3, 0, none⟩) p.sib.length c3))) y31.heap.size p (.slice (some ⟨u3, 0, none⟩) p.sib.length c3)) := setRow_heap _ _ _ _ _ _ HG33_6.out
        have HO34_1 : Hid (OwnD ((y32.setRow y0.heap.size (pfC p (.slice (some ⟨u1, 0, none⟩) p.sib.length c1))).setRow y31.heap.size (pfC p (.slice (some ⟨u3, 0, none⟩) p.sib.length c3))) X.heap.size (.slice (some ⟨u1, 0, none⟩) p.sib.length c1) p.sib) := row11_other HO33_1.out (fun g cs hg hh => (setRow_other _ _ _ _ (by have e : u1 = g := (by simpa [Value.ownBlock] using hg); omega)).trans hh)
        have HO34_3 : Hid (OwnD ((y32.setRow y0.heap.size (pfC p (.slice (some ⟨u1, 0, none⟩) p.sib.length c1))).setRow y31.heap.size (pfC p (.slice (some ⟨u3, 0, none⟩) p.sib.length c3))) X.heap.size (.slice (some ⟨u3, 0, none⟩) p.sib.length c3) p.sib) := row11_other HO33_3.out (fun g cs hg hh => (setRow_other _ _ _ _ (by have e : u3 = g := (by simpa [Value.ownBlock] using hg); omega)).trans hh)
        have hb34 : Below X.heap.size X ((y32.setRow y0.heap.size (pfC p (.slice (some ⟨u1, 0, none⟩) p.sib.length c1))).setRow y31.heap.size (pfC p (.slice (some ⟨u3, 0, none⟩) p.sib.length c3))) := Bt.below_row (hb33) hg6 _
        refine hK.out _ _ (hb34) (fun hHeld => ?_)
        clear hK K
        try simp only [Act.put, List.setIfInBounds_toArray, List.set_cons_zero, List.set_cons_succ]
        refine wpAnyH_done (by kernel_rfl) ?_ _
        exact HC.out u1 u3 (y0.heap.size) (y31.heap.size) c1 c3 _ HG34_5.out HG34_6.out HO34_1.out HO34_3.out HCC1.out HCC3.out (by omega) (by omega) (by omega) (by omega) (by omega) (by omega) (by omega) hb34
      · skip
        go_simp
        obtain ⟨y35, hy35⟩ : ∃ y, y = y30.alloc (.cells (pfC zPf (.slice none 0 0)) 29) := ⟨_, rfl⟩
        have hb35 : Below X.heap.size X y35 := by rw [hy35]; exact (hb30).alloc (hb30).size _
        have hq : Below y30.heap.size y30 y35 := by rw [hy35]; exact Bt.one_below _ _
        have hs35 : y30.heap.size + 1 ≤ y35.heap.size := by rw [hy35]; simp
        have HG35_5 := Lib.hid (HG30_5.out.below (hq) HG30_5.out.lt)
        have HO35_1 := Lib.hid (HO30_1.out.below (hq))
        have HG35_6 : Hid (PfAt y35 y30.heap.size zPf (.slice none 0 0)) := by show PfAt _ _ _ _; rw [hy35]; exact PfAt.one _ _ _
        have hg6 : X.heap.size ≤ y30.heap.size := (hb30).size
        rw [← hy35]
        clear hy35 hq
        refine hK.out _ _ (hb35) (fun hHeld => ?_)
        clear hK K
        try simp only [Act.put, List.setIfInBounds_toArray, List.set_cons_zero, List.set_cons_succ]
        refine wpAnyH_ready (rs := [3]) (by kernel_rfl) (by simp) ?_
        refine AllReadyH.cons (o := { dst := some 28, op := .call _, type := _, pos := _, after := _, guard := _ }) rfl (fun K hK => ?_) AllReadyH.nil
        go_simp
        refine (HCL.out y35 (hb35)).mono ?_
        rintro e y36 ⟨A3, c3, rfl, hN, hb⟩
        have hb36 : Below X.heap.size X y36 := keeps (hb35) hb
        have hs36 : y35.heap.size ≤ y36.heap.size := hb.size
        obtain ⟨u3, rfl, hu3, hv3, hO⟩ := clone_row HNE.out hN
        have HG36_5 := Lib.hid (HG35_5.out.below (hb) HG35_5.out.lt)
        have HG36_6 := Lib.hid (HG35_6.out.below (hb) HG35_6.out.lt)
        have HO36_1 := Lib.hid (HO35_1.out.below (hb))
        have hgx3 : X.heap.size ≤ y35.heap.size := (hb35).size
        have HO36_3 : Hid (OwnD y36 X.heap.size (.slice (some ⟨u3, 0, none⟩) p.sib.length c3) p.sib) := hO.mono hgx3
        have HCC3 := Lib.hid hN.1
        clear hb hN hO
        go_wp2_with fail
        refine hK.out _ _ (hb36) (fun hHeld => ?_)
        clear hK K
        try simp only [Act.put, List.setIfInBounds_toArray, List.set_cons_zero, List.set_cons_succ]
        refine wpAnyH_ready (rs := [6]) (by kernel_rfl) (by simp) ?_
        refine AllReadyH.cons (o := { dst := none, op := .store _ (.tmp 5) (.tmp 26), type := _, pos := _, after := _, guard := _ }) rfl (fun K hK => ?_) AllReadyH.nil
        have st37 : stA 29 y36 (.pointer (some ⟨y0.heap.size, 0, none⟩)) (.agg (pfC p (.slice (some ⟨u1, 0, none⟩) p.sib.length c1))) = .ok .skip (y36.setRow y0.heap.size (pfC p (.slice (some ⟨u1, 0, none⟩) p.sib.length c1))) := stA_row HG36_5.out (by rw [pfC_size HPO.out]; exact infoPf) (by rw [pfC_size HPO.out, pfC_size zPf_ok]) (pfC_one _ _ _ _)
        go_simp
        clear st37
        have HG37_5 : Hid (PfAt (y36.setRow y0.heap.size (pfC p (.slice (some ⟨u1, 0, none⟩) p.sib.length c1))) y0.heap.size p (.slice (some ⟨u1, 0, none⟩) p.sib.length c1)) := setRow_heap _ _ _ _ _ _ HG36_5.out
        have HG37_6 : Hid (PfAt (y36.setRow y0.heap.size (pfC p (.slice (some ⟨u1, 0, none⟩) p.sib.length c1))) y30.heap.size zPf (.slice none 0 0)) := (setRow_other _ _ _ _ (by omega)).trans HG36_6.out
        have HO37_1 : Hid (OwnD (y36.setRow y0.heap.size (pfC p (.slice (some ⟨u1, 0, none⟩) p.sib.length c1))) X.heap.size (.slice (some ⟨u1, 0, none⟩) p.sib.length c1) p.sib) := row11_other HO36_1.out (fun g cs hg hh => (setRow_other _ _ _ _ (by have e : u1 = g := (by simpa [Value.ownBlock] using hg); omega)).trans hh)
        have HO37_3 : Hid (OwnD (y36.setRow y0.heap.size (pfC p (.slice (some ⟨u1, 0, none⟩) p.sib.length c1))) X.heap.size (.slice (some ⟨u3, 0, none⟩) p.sib.length c3) p.sib) := row11_other HO36_3.out (fun g cs hg hh => (setRow_other _ _ _ _ (by have e : u3 = g := (by simpa [Value.ownBlock] using hg); omega)).trans hh)
        have hb37 : Below X.heap.size X (y36.setRow y0.heap.size (pfC p (.slice (some ⟨u1, 0, none⟩) p.sib.length c1))) := Bt.below_row (hb36) hg5 _
        refine hK.out _ _ (hb37) (fun hHeld => ?_)
        clear hK K
        try simp only [Act.put, List.setIfInBounds_toArray, List.set_cons_zero, List.set_cons_succ]
        refine wpAnyH_ready (rs := [7]) (by kernel_rfl) (by simp) ?_
        refine AllReadyH.cons (o := { dst := none, op := .store _ (.tmp 6) (.tmp 28), type := _, pos := _, after := _, guard := _ }) rfl (fun K hK => ?_) AllReadyH.nil
        have st38 : stA 29 (y36.setRow y0.heap.size (pfC p (.slice (some ⟨u1, 0, none⟩) p.sib.length c1))) (.pointer (some ⟨y30.heap.size, 0, none⟩)) (.agg (pfC p (.slice (some ⟨u3, 0, none⟩) p.sib.length c3))) = .ok .skip ((y36.setRow y0.heap.size (pfC p (.slice (some ⟨u1, 0, none⟩) p.sib.length c1))).setRow y30.heap.size (pfC p (.slice (some ⟨u3, 0, none⟩) p.sib.length c3))) := stA_row HG37_6.out (by rw [pfC_size HPO.out]; exact infoPf) (by rw [pfC_size HPO.out, pfC_size zPf_ok]) (pfC_one _ _ _ _)
        go_simp
        clear st38
        have HG38_5 : Hid (PfAt ((y36.setRow y0.heap.size (pfC p (.slice (some ⟨u1, 0, none⟩) p.sib.length c1))).setRow y30.heap.size (pfC p (.slice (some ⟨u3, 0, none⟩) p.sib.length c3))) y0.heap.size p (.slice (some ⟨u1, 0, none⟩) p.sib.length c1)) := (setRow_other _ _ _ _ (by omega)).trans HG37_5.out
        have HG38_6 : Hid (PfAt ((y36.setRow y0.heap.size (pfC p (.slice (some ⟨u1, 0, none⟩) p.sib.length c1))).setRow y30.heap.size (pfC p (.slice (some ⟨u3, 0, none⟩) p.sib.length c3))) y30.heap.size p (.slice (some ⟨u3, 0, none⟩) p.sib.length c3)) := setRow_heap _ _ _ _ _ _ HG37_6.out
        have HO38_1 : Hid (OwnD ((y36.setRow y0.heap.size (pfC p (.slice (some ⟨u1, 0, none⟩) p.sib.length c1))).setRow y30.heap.size (pfC p (.slice (some ⟨u3, 0, none⟩) p.sib.length c3))) X.heap.size (.slice (some ⟨u1, 0, none⟩) p.sib.length c1) p.sib) := row11_other HO37_1.out (fun g cs hg hh => (setRow_other _ _ _ _ (by have e : u1 = g := (by simpa [Value.ownBlock] using hg); omega)).trans hh)
        have HO38_3 : Hid (OwnD ((y36.setRow y0.heap.size (pfC p (.slice (some ⟨u1, 0, none⟩) p.sib.length c1))).setRow y30.heap.size (pfC p (.slice (some ⟨u3, 0, none⟩) p.sib.length c3))) X.heap.size (.slice (some ⟨u3, 0, none⟩) p.sib.length c3) p.sib) := row11_other HO37_3.out (fun g cs hg hh => (setRow_other _ _ _ _ (by have e : u3 = g := (by simpa [Value.ownBlock] using hg); omega)).trans hh)
        have hb38 : Below X.heap.size X ((y36.setRow y0.heap.size (pfC p (.slice (some ⟨u1, 0, none⟩) p.sib.length c1))).setRow y30.heap.size (pfC p (.slice (some ⟨u3, 0, none⟩) p.sib.length c3))) := Bt.below_row (hb37) hg6 _
        refine hK.out _ _ (hb38) (fun hHeld => ?_)
        clear hK K
        try simp only [Act.put, List.setIfInBounds_toArray, List.set_cons_zero, List.set_cons_succ]
        refine wpAnyH_done (by kernel_rfl) ?_ _
        exact HC.out u1 u3 (y0.heap.size) (y30.heap.size) c1 c3 _ HG38_5.out HG38_6.out HO38_1.out HO38_3.out HCC1.out HCC3.out (by omega) (by omega) (by omega) (by omega) (by omega) (by omega) (by omega) hb38
    · skip
      go_simp
      obtain ⟨y39, hy39⟩ : ∃ y, y = y29.alloc (.cells (pfC zPf (.slice none 0 0)) 29) := ⟨_, rfl⟩
      have hb39 : Below X.heap.size X y39 := by rw [hy39]; exact (hb29).alloc (hb29).size _
      have hq : Below y29.heap.size y29 y39 := by rw [hy39]; exact Bt.one_below _ _
      have hs39 : y29.heap.size + 1 ≤ y39.heap.size := by rw [hy39]; simp
      have HG39_5 := Lib.hid (HG29_5.out.below (hq) HG29_5.out.lt)
      have HG39_6 : Hid (PfAt y39 y29.heap.size zPf (.slice none 0 0)) := by show PfAt _ _ _ _; rw [hy39]; exact PfAt.one _ _ _
      have hg6 : X.heap.size ≤ y29.heap.size := (hb29).size
      rw [← hy39]
      clear hy39 hq
      refine hK.out _ _ (hb39) (fun hHeld => ?_)
      clear hK K
      try simp only [Act.put, List.setIfInBounds_toArray, List.set_cons_zero, List.set_cons_succ]
      refine wpAnyH_ready (rs := [1]) (by kernel_rfl) (by simp) ?_
      refine AllReadyH.cons (o := { dst := some 26, op := .call _, type := _, pos := _, after := _, guard := _ }) rfl (fun K hK => ?_) AllReadyH.nil
      go_simp
      refine (HCL.out y39 (hb39)).mono ?_
      rintro e y40 ⟨A1, c1, rfl, hN, hb⟩
      have hb40 : Below X.heap.size X y40 := keeps (hb39) hb
      have hs40 : y39.heap.size ≤ y40.heap.size := hb.size
      obtain ⟨u1, rfl, hu1, hv1, hO⟩ := clone_row HNE.out hN
      have HG40_5 := Lib.hid (HG39_5.out.below (hb) HG39_5.out.lt)
      have HG40_6 := Lib.hid (HG39_6.out.below (hb) HG39_6.out.lt)
      have hgx1 : X.heap.size ≤ y39.heap.size := (hb39).size
      have HO40_1 : Hid (OwnD y40 X.heap.size (.slice (some ⟨u1, 0, none⟩) p.sib.length c1) p.sib) := hO.mono hgx1
      have HCC1 := Lib.hid hN.1
      clear hb hN hO
      go_wp2_with fail
      refine hK.out _ _ (hb40) (fun hHeld => ?_)
      clear hK K
      try simp only [Act.put, List.setIfInBounds_toArray, List.set_cons_zero, List.set_cons_succ]
      refine wpAnyH_ready (rs := [3]) (by kernel_rfl) (by simp) ?_
      refine AllReadyH.cons (o := { dst := some 28, op := .call _, type := _, pos := _, after := _, guard := _ }) rfl (fun K hK => ?_) AllReadyH.nil
      go_simp
      refine (HCL.out y40 (hb40)).mono ?_
      rintro e y41 ⟨A3, c3, rfl, hN, hb⟩
      have hb41 : Below X.heap.size X y41 := keeps (hb40) hb
      have hs41 : y40.heap.size ≤ y41.heap.size := hb.size
      obtain ⟨u3, rfl, hu3, hv3, hO⟩ := clone_row HNE.out hN
      have HG41_5 := Lib.hid (HG40_5.out.below (hb) HG40_5.out.lt)
      have HG41_6 := Lib.hid (HG40_6.out.below (hb) HG40_6.out.lt)
      have HO41_1 := Lib.hid (HO40_1.out.below (hb))
      have hgx3 : X.heap.size ≤ y40.heap.size := (hb40).size
      have HO41_3 : Hid (OwnD y41 X.heap.size (.slice (some ⟨u3, 0, none⟩) p.sib.length c3) p.sib) := hO.mono hgx3
      have HCC3 := Lib.hid hN.1
      clear hb hN hO
      go_wp2_with fail
      refine hK.out _ _ (hb41) (fun hHeld => ?_)
      clear hK K
      try simp only [Act.put, List.setIfInBounds_toArray, List.set_cons_zero, List.set_cons_succ]
      refine wpAnyH_ready (rs := [6]) (by kernel_rfl) (by simp) ?_
      refine AllReadyH.cons (o := { dst := none, op := .store _ (.tmp 5) (.tmp 26), type := _, pos := _, after := _, guard := _ }) rfl (fun K hK => ?_) AllReadyH.nil
      have st42 : stA 29 y41 (.pointer (some ⟨y0.heap.size, 0, none⟩)) (.agg (pfC p (.slice (some ⟨u1, 0, none⟩) p.sib.length c1))) = .ok .skip (y41.setRow y0.heap.size (pfC p (.slice (some ⟨u1, 0, none⟩) p.sib.length c1))) := stA_row HG41_5.out (by rw [pfC_size HPO.out]; exact infoPf) (by rw [pfC_size HPO.out, pfC_size zPf_ok]) (pfC_one _ _ _ _)
      go_simp
      clear st42
      have HG42_5 : Hid (PfAt (y41.setRow y0.heap.size (pfC p (.slice (some ⟨u1, 0, none⟩) p.sib.length c1))) y0.heap.size p (.slice (some ⟨u1, 0, none⟩) p.sib.length c1)) := setRow_heap _ _ _ _ _ _ HG41_5.out
      have HG42_6 : Hid (PfAt (y41.setRow y0.heap.size (pfC p (.slice (some ⟨u1, 0, none⟩) p.sib.length c1))) y29.heap.size zPf (.slice none 0 0)) := (setRow_other _ _ _ _ (by omega)).trans HG41_6.out
      have HO42_1 : Hid (OwnD (y41.setRow y0.heap.size (pfC p (.slice (some ⟨u1, 0, none⟩) p.sib.length c1))) X.heap.size (.slice (some ⟨u1, 0, none⟩) p.sib.length c1) p.sib) := row11_other HO41_1.out (fun g cs hg hh => (setRow_other _ _ _ _ (by have e : u1 = g := (by simpa [Value.ownBlock] using hg); omega)).trans hh)
      have HO42_3 : Hid (OwnD (y41.setRow y0.heap.size (pfC p (.slice (some ⟨u1, 0, none⟩) p.sib.length c1))) X.heap.size (.slice (some ⟨u3, 0, none⟩) p.sib.length c3) p.sib) := row11_other HO41_3.out (fun g cs hg hh => (setRow_other _ _ _ _ (by have e : u3 = g := (by simpa [Value.ownBlock] using hg); omega)).trans hh)
      have hb42 : Below X.heap.size X (y41.setRow y0.heap.size (pfC p (.slice (some ⟨u1, 0, none⟩) p.sib.length c1))) := Bt.below_row (hb41) hg5 _
      refine hK.out _ _ (hb42) (fun hHeld => ?_)
      clear hK K
      try simp only [Act.put, List.setIfInBounds_toArray, List.set_cons_zero, List.set_cons_succ]
      refine wpAnyH_ready (rs := [7]) (by kernel_rfl) (by simp) ?_
      refine AllReadyH.cons (o := { dst := none, op := .store _ (.tmp 6) (.tmp 28), type := _, pos := _, after := _, guard := _ }) rfl (fun K hK => ?_) AllReadyH.nil
      have st43 : stA 29 (y41.setRow y0.heap.size (pfC p (.slice (some ⟨u1, 0, none⟩) p.sib.length c1))) (.pointer (some ⟨y29.heap.size, 0, none⟩)) (.agg (pfC p (.slice (some ⟨u3, 0, none⟩) p.sib.length c3))) = .ok .skip ((y41.setRow y0.heap.size (pfC p (.slice (some ⟨u1, 0, none⟩) p.sib.length c1))).setRow y29.heap.size (pfC p (.slice (some ⟨u3, 0, none⟩) p.sib.length c3))) := stA_row HG42_6.out (by rw [pfC_size HPO.out]; exact infoPf) (by rw [pfC_size HPO.out, pfC_size zPf_ok]) (pfC_one _ _ _ _)
      go_simp
      clear st43
      have HG43_5 : Hid (PfAt ((y41.setRow y0.heap.size (pfC p (.slice (some ⟨u1, 0, none⟩) p.sib.length c1))).setRow y29.heap.size (pfC p (.slice (some ⟨u3, 0, none⟩) p.sib.length c3))) y0.heap.size p (.slice (some ⟨u1, 0, none⟩) p.sib.length c1)) := (setRow_other _ _ _ _ (by omega)).trans HG42_5.out
      have HG43_6 : Hid (PfAt ((y41.setRow y0.heap.size (pfC p (.slice (some ⟨u1, 0, none⟩) p.sib.length c1))).setRow y29.heap.size (pfC p (.slice (some ⟨u3, 0, none⟩) p.sib.length c3))) y29.heap.size p (.slice (some ⟨u3, 0, none⟩) p.sib.length c3)) := setRow_heap _ _ _ _ _ _ HG42_6.out
      have HO43_1 : Hid (OwnD ((y41.setRow y0.heap.size (pfC p (.slice (some ⟨u1, 0, none⟩) p.sib.length c1))).setRow y29.heap.size (pfC p (.slice (some ⟨u3, 0, none⟩) p.sib.length c3))) X.heap.size (.slice (some ⟨u1, 0, none⟩) p.sib.length c1) p.sib) := row11_other HO42_1.out (fun g cs hg hh => (setRow_other _ _ _ _ (by have e : u1 = g := (by simpa [Value.ownBlock] using hg); omega)).trans hh)
      have HO43_3 : Hid (OwnD ((y41.setRow y0.heap.size (pfC p (.slice (some ⟨u1, 0, none⟩) p.sib.length c1))).setRow y29.heap.size (pfC p (.slice (some ⟨u3, 0, none⟩) p.sib.length c3))) X.heap.size (.slice (some ⟨u3, 0, none⟩) p.sib.length c3) p.sib) := row11_other HO42_3.out (fun g cs hg hh => (setRow_other _ _ _ _ (by have e : u3 = g := (by simpa [Value.ownBlock] using hg); omega)).trans hh)
      have hb43 : Below X.heap.size X ((y41.setRow y0.heap.size (pfC p (.slice (some ⟨u1, 0, none⟩) p.sib.length c1))).setRow y29.heap.size (pfC p (.slice (some ⟨u3, 0, none⟩) p.sib.length c3))) := Bt.below_row (hb42) hg6 _
      refine hK.out _ _ (hb43) (fun hHeld => ?_)
      clear hK K
      try simp only [Act.put, List.setIfInBounds_toArray, List.set_cons_zero, List.set_cons_succ]
      refine wpAnyH_done (by kernel_rfl) ?_ _
      exact HC.out u1 u3 (y0.heap.size) (y29.heap.size) c1 c3 _ HG43_5.out HG43_6.out HO43_1.out HO43_3.out HCC1.out HCC3.out (by omega) (by omega) (by omega) (by omega) (by omega) (by omega) (by omega) hb43
  · skip
    go_simp
    obtain ⟨y44, hy44⟩ : ∃ y, y = y0.alloc (.cells (pfC zPf (.slice none 0 0)) 29) := ⟨_, rfl⟩
    have hb44 : Below X.heap.size X y44 := by rw [hy44]; exact (hb0).alloc (hb0).size _
    have hq : Below y0.heap.size y0 y44 := by rw [hy44]; exact Bt.one_below _ _
    have hs44 : y0.heap.size + 1 ≤ y44.heap.size := by rw [hy44]; simp
    have HG44_6 : Hid (PfAt y44 y0.heap.size zPf (.slice none 0 0)) := by show PfAt _ _ _ _; rw [hy44]; exact PfAt.one _ _ _
    have hg6 : X.heap.size ≤ y0.heap.size := (hb0).size
    rw [← hy44]
    clear hy44 hq
    refine hK.out _ _ (hb44) (fun hHeld => ?_)
    clear hK K
    try simp only [Act.put, List.setIfInBounds_toArray, List.set_cons_zero, List.set_cons_succ]
    refine wpAnyH_ready (rs := [1, 4]) (by kernel_rfl) (by simp) ?_
    refine AllReadyH.cons (o := { dst := some 26, op := .call _, type := _, pos := _, after := _, guard := _ }) rfl (fun K hK => ?_) (AllReadyH.cons (o := { dst := some 5, op := .alloc _, type := _, pos := _, after := _, guard := _ }) rfl (fun K hK => ?_) (AllReadyH.nil))
    · skip
      go_simp
      refine (HCL.out y44 (hb44)).mono ?_
      rintro e y45 ⟨A1, c1, rfl, hN, hb⟩
      have hb45 : Below X.heap.size X y45 := keeps (hb44) hb
      have hs45 : y44.heap.size ≤ y45.heap.size := hb.size
      obtain ⟨u1, rfl, hu1, hv1, hO⟩ := clone_row HNE.out hN
      have HG45_6 := Lib.hid (HG44_6.out.below (hb) HG44_6.out.lt)
      have hgx1 : X.heap.size ≤ y44.heap.size := (hb44).size
      have HO45_1 : Hid (OwnD y45 X.heap.size (.slice (some ⟨u1, 0, none⟩) p.sib.length c1) p.sib) := hO.mono hgx1
      have HCC1 := Lib.hid hN.1
      clear hb hN hO
      go_wp2_with fail
      refine hK.out _ _ (hb45) (fun hHeld => ?_)
      clear hK K
      try simp only [Act.put, List.setIfInBounds_toArray, List.set_cons_zero, List.set_cons_succ]
      refine wpAnyH_ready (rs := [3, 4]) (by kernel_rfl) (by simp) ?_
      refine AllReadyH.cons (o := { dst := some 28, op := .call _, type := _, pos := _, after := _, guard := _ }) rfl (fun K hK => ?_) (AllReadyH.cons (o := { dst := some 5, op := .alloc _, type := _, pos := _, after := _, guard := _ }) rfl (fun K hK => ?_) (AllReadyH.nil))
      · skip
        go_simp
        refine (HCL.out y45 (hb45)).mono ?_
        rintro e y46 ⟨A3, c3, rfl, hN, hb⟩
        have hb46 : Below X.heap.size X y46 := keeps (hb45) hb
        have hs46 : y45.heap.size ≤ y46.heap.size := hb.size
        obtain ⟨u3, rfl, hu3, hv3, hO⟩ := clone_row HNE.out hN
        have HG46_6 := Lib.hid (HG45_6.out.below (hb) HG45_6.out.lt)
        have HO46_1 := Lib.hid (HO45_1.out.below (hb))
        have hgx3 : X.heap.size ≤ y45.heap.size := (hb45).size
        have HO46_3 : Hid (OwnD y46 X.heap.size (.slice (some ⟨u3, 0, none⟩) p.sib.length c3) p.sib) := hO.mono hgx3
        have HCC3 := Lib.hid hN.1
        clear hb hN hO
        go_wp2_with fail
        refine hK.out _ _ (hb46) (fun hHeld => ?_)
        clear hK K
        try simp only [Act.put, List.setIfInBounds_toArray, List.set_cons_zero, List.set_cons_succ]
        refine wpAnyH_ready (rs := [4]) (by kernel_rfl) (by simp) ?_
        refine AllReadyH.cons (o := { dst := some 5, op := .alloc _, type := _, pos := _, after := _, guard := _ }) rfl (fun K hK => ?_) AllReadyH.nil
        go_simp
        obtain ⟨y47, hy47⟩ : ∃ y, y = y46.alloc (.cells (pfC zPf (.slice none 0 0)) 29) := ⟨_, rfl⟩
        have hb47 : Below X.heap.size X y47 := by rw [hy47]; exact (hb46).alloc (hb46).size _
        have hq : Below y46.heap.size y46 y47 := by rw [hy47]; exact Bt.one_below _ _
        have hs47 : y46.heap.size + 1 ≤ y47.heap.size := by rw [hy47]; simp
        have HG47_6 := Lib.hid (HG46_6.out.below (hq) HG46_6.out.lt)
        have HO47_1 := Lib.hid (HO46_1.out.below (hq))
        have HO47_3 := Lib.hid (HO46_3.out.below (hq))
        have HG47_5 : Hid (PfAt y47 y46.heap.size zPf (.slice none 0 0)) := by show PfAt _ _ _ _; rw [hy47]; exact PfAt.one _ _ _
        have hg5 : X.heap.size ≤ y46.heap.size := (hb46).size
        rw [← hy47]
        clear hy47 hq
        refine hK.out _ _ (hb47) (fun hHeld => ?_)
        clear hK K
        try simp only [Act.put, List.setIfInBounds_toArray, List.set_cons_zero, List.set_cons_succ]
        refine wpAnyH_ready (rs := [6]) (by kernel_rfl) (by simp) ?_
        refine AllReadyH.cons (o := { dst := none, op := .store _ (.tmp 5) (.tmp 26), type := _, pos := _, after := _, guard := _ }) rfl (fun K hK => ?_) AllReadyH.nil
        have st48 : stA 29 y47 (.pointer (some ⟨y46.heap.size, 0, none⟩)) (.agg (pfC p (.slice (some ⟨u1, 0, none⟩) p.sib.length c1))) = .ok .skip (y47.setRow y46.heap.size (pfC p (.slice (some ⟨u1, 0, none⟩) p.sib.length c1))) := stA_row HG47_5.out (by rw [pfC_size HPO.out]; exact infoPf) (by rw [pfC_size HPO.out, pfC_size zPf_ok]) (pfC_one _ _ _ _)
        go_simp
        clear st48
        have HG48_6 : Hid (PfAt (y47.setRow y46.heap.size (pfC p (.slice (some ⟨u1, 0, none⟩) p.sib.length c1))) y0.heap.size zPf (.slice none 0 0)) := (setRow_other _ _ _ _ (by omega)).trans HG47_6.out
        have HG48_5 : Hid (PfAt (y47.setRow y46.heap.size (pfC p (.slice (some ⟨u1, 0, none⟩) p.sib.length c1))) y46.heap.size p (.slice (some ⟨u1, 0, none⟩) p.sib.length c1)) := setRow_heap _ _ _ _ _ _ HG47_5.out
        have HO48_1 : Hid (OwnD (y47.setRow y46.heap.size (pfC p (.slice (some ⟨u1, 0, none⟩) p.sib.length c1))) X.heap.size (.slice (some ⟨u1, 0, none⟩) p.sib.length c1) p.sib) := row11_other HO47_1.out (fun g cs hg hh => (setRow_other _ _ _ _ (by have e : u1 = g := (by simpa [Value.ownBlock] using hg); omega)).trans hh)
        have HO48_3 : Hid (OwnD (y47.setRow y46.heap.size (pfC p (.slice (some ⟨u1, 0, none⟩) p.sib.length c1))) X.heap.size (.slice (some ⟨u3, 0, none⟩) p.sib.length c3) p.sib) := row11_other HO47_3.out (fun g cs hg hh => (setRow_other _ _ _ _ (by have e : u3 = g := (by simpa [Value.ownBlock] using hg); omega)).trans hh)
        have hb48 : Below X.heap.size X (y47.setRow y46.heap.size (pfC p (.slice (some ⟨u1, 0, none⟩) p.sib.length c1))) := Bt.below_row (hb47) hg5 _
        refine hK.out _ _ (hb48) (fun hHeld => ?_)
        clear hK K
        try simp only [Act.put, List.setIfInBounds_toArray, List.set_cons_zero, List.set_cons_succ]
        refine wpAnyH_ready (rs := [7]) (by kernel_rfl) (by simp) ?_
        refine AllReadyH.cons (o := { dst := none, op := .store _ (.tmp 6) (.tmp 28), type := _, pos := _, after := _, guard := _ }) rfl (fun K hK => ?_) AllReadyH.nil
        have st49 : stA 29 (y47.setRow y46.heap.size (pfC p (.slice (some ⟨u1, 0, none⟩) p.sib.length c1))) (.pointer (some ⟨y0.heap.size, 0, none⟩)) (.agg (pfC p (.slice (some ⟨u3, 0, none⟩) p.sib.length c3))) = .ok .skip ((y47.setRow y46.heap.size (pfC p (.slice (some ⟨u1, 0, none⟩) p.sib.length c1))).setRow y0.heap.size (pfC p (.slice (some ⟨u3, 0, none⟩) p.sib.length c3))) := stA_row HG48_6.out (by rw [pfC_size HPO.out]; exact infoPf) (by rw [pfC_size HPO.out, pfC_size zPf_ok]) (pfC_one _ _ _ _)
        go_simp
        clear st49
        have HG49_6 : Hid (PfAt ((y47.setRow y46.heap.size (pfC p (.slice (some ⟨u1, 0, none⟩) p.sib.length c1))).setRow y0.heap.size (pfC p (.slice (some ⟨u3, 0, none⟩) p.sib.length c3))) y0.heap.size p (.slice (some ⟨u3, 0, none⟩) p.sib.length c3)) := setRow_heap _ _ _ _ _ _ HG48_6.out
        have HG49_5 : Hid (PfAt ((y47.setRow y46.heap.size (pfC p (.slice (some ⟨u1, 0, none⟩) p.sib.length c1))).setRow y0.heap.size (pfC p (.slice (some ⟨u3, 0, none⟩) p.sib.length c3))) y46.heap.size p (.slice (some ⟨u1, 0, none⟩) p.sib.length c1)) := (setRow_other _ _ _ _ (by omega)).trans HG48_5.out
        have HO49_1 : Hid (OwnD ((y47.setRow y46.heap.size (pfC p (.slice (some ⟨u1, 0, none⟩) p.sib.length c1))).setRow y0.heap.size (pfC p (.slice (some ⟨u3, 0, none⟩) p.sib.length c3))) X.heap.size (.slice (some ⟨u1, 0, none⟩) p.sib.length c1) p.sib) := row11_other HO48_1.out (fun g cs hg hh => (setRow_other _ _ _ _ (by have e : u1 = g := (by simpa [Value.ownBlock] using hg); omega)).trans hh)
        have HO49_3 : Hid (OwnD ((y47.setRow y46.heap.size (pfC p (.slice (some ⟨u1, 0, none⟩) p.sib.length c1))).setRow y0.heap.size (pfC p (.slice (some ⟨u3, 0, none⟩) p.sib.length c3))) X.heap.size (.slice (some ⟨u3, 0, none⟩) p.sib.length c3) p.sib) := row11_other HO48_3.out (fun g cs hg hh => (setRow_other _ _ _ _ (by have e : u3 = g := (by simpa [Value.ownBlock] using hg); omega)).trans hh)
        have hb49 : Below X.heap.size X ((y47.setRow y46.heap.size (pfC p (.slice (some ⟨u1, 0, none⟩) p.sib.length c1))).setRow y0.heap.size (pfC p (.slice (some ⟨u3, 0, none⟩) p.sib.length c3))) := Bt.below_row (hb48) hg6 _
        refine hK.out _ _ (hb49) (fun hHeld => ?_)
        clear hK K
        try simp only [Act.put, List.setIfInBounds_toArray, List.set_cons_zero, List.set_cons_succ]
        refine wpAnyH_done (by kernel_rfl) ?_ _
        exact HC.out u1 u3 (y46.heap.size) (y0.heap.size) c1 c3 _ HG49_5.out HG49_6.out HO49_1.out HO49_3.out HCC1.out HCC3.out (by omega) (by omega) (by omega) (by omega) (by omega) (by omega) (by omega) hb49
      · skip
        go_simp
        obtain ⟨y50, hy50⟩ : ∃ y, y = y45.alloc (.cells (pfC zPf (.slice none 0 0)) 29) := ⟨_, rfl⟩
        have hb50 : Below X.heap.size X y50 := by rw [hy50]; exact (hb45).alloc (hb45).size _
        have hq : Below y45.heap.size y45 y50 := by rw [hy50]; exact Bt.one_below _ _
        have hs50 : y45.heap.size + 1 ≤ y50.heap.size := by rw [hy50]; simp
        have HG50_6 := Lib.hid (HG45_6.out.below (hq) HG45_6.out.lt)
        have HO50_1 := Lib.hid (HO45_1.out.below (hq))
        have HG50_5 : Hid (PfAt y50 y45.heap.size zPf (.slice none 0 0)) := by show PfAt _ _ _ _; rw [hy50]; exact PfAt.one _ _ _
        have hg5 : X.heap.size ≤ y45.heap.size := (hb45).size
        rw [← hy50]
        clear hy50 hq
        refine hK.out _ _ (hb50) (fun hHeld => ?_)
        clear hK K
        try simp only [Act.put, List.setIfInBounds_toArray, List.set_cons_zero, List.set_cons_succ]
        refine wpAnyH_ready (rs := [3]) (by kernel_rfl) (by simp) ?_
        refine AllReadyH.cons (o := { dst := some 28, op := .call _, type := _, pos := _, after := _, guard := _ }) rfl (fun K hK => ?_) AllReadyH.nil
        go_simp
        refine (HCL.out y50 (hb50)).mono ?_
        rintro e y51 ⟨A3, c3, rfl, hN, hb⟩
        have hb51 : Below X.heap.size X y51 := keeps (hb50) hb
        have hs51 : y50.heap.size ≤ y51.heap.size := hb.size
        obtain ⟨u3, rfl, hu3, hv3, hO⟩ := clone_row HNE.out hN
        have HG51_6 := Lib.hid (HG50_6.out.below (hb) HG50_6.out.lt)
        have HG51_5 := Lib.hid (HG50_5.out.below (hb) HG50_5.out.lt)
        have HO51_1 := Lib.hid (HO50_1.out.below (hb))
        have hgx3 : X.heap.size ≤ y50.heap.size := (hb50).size
        have HO51_3 : Hid (OwnD y51 X.heap.size (.slice (some ⟨u3, 0, none⟩) p.sib.length c3) p.sib) := hO.mono hgx3
        have HCC3 := Lib.hid hN.1
        clear hb hN hO
        go_wp2_with fail
        refine hK.out _ _ (hb51) (fun hHeld => ?_)
        clear hK K
        try simp only [Act.put, List.setIfInBounds_toArray, List.set_cons_zero, List.set_cons_succ]
        refine wpAnyH_ready (rs := [6]) (by kernel_rfl) (by simp) ?_
        refine AllReadyH.cons (o := { dst := none, op := .store _ (.tmp 5) (.tmp 26), type := _, pos := _, after := _, guard := _ }) rfl (fun K hK => ?_) AllReadyH.nil
        have st52 : stA 29 y51 (.pointer (some ⟨y45.heap.size, 0, none⟩)) (.agg (pfC p (.slice (some ⟨u1, 0, none⟩) p.sib.length c1))) = .ok .skip (y51.setRow y45.heap.size (pfC p (.slice (some ⟨u1, 0, none⟩) p.sib.length c1))) := stA_row HG51_5.out (by rw [pfC_size HPO.out]; exact infoPf) (by rw [pfC_size HPO.out, pfC_size zPf_ok]) (pfC_one _ _ _ _)
        go_simp
        clear st52
        have HG52_6 : Hid (PfAt (y51.setRow y45.heap.size (pfC p (.slice (some ⟨u1, 0, none⟩) p.sib.length c1))) y0.heap.size zPf (.slice none 0 0)) := (setRow_other _ _ _ _ (by omega)).trans HG51_6.out
        have HG52_5 : Hid (PfAt (y51.setRow y45.heap.size (pfC p (.slice (some ⟨u1, 0, none⟩) p.sib.length c1))) y45.heap.size p (.slice (some ⟨u1, 0, none⟩) p.sib.length c1)) := setRow_heap _ _ _ _ _ _ HG51_5.out
        have HO52_1 : Hid (OwnD (y51.setRow y45.heap.size (pfC p (.slice (some ⟨u1, 0, none⟩) p.sib.length c1))) X.heap.size (.slice (some ⟨u1, 0, none⟩) p.sib.length c1) p.sib) := row11_other HO51_1.out (fun g cs hg hh => (setRow_other _ _ _ _ (by have e : u1 = g := (by simpa [Value.ownBlock] using hg); omega)).trans hh)
        have HO52_3 : Hid (OwnD (y51.setRow y45.heap.size (pfC p (.slice (some ⟨u1, 0, none⟩) p.sib.length c1))) X.heap.size (.slice (some ⟨u3, 0, none⟩) p.sib.length c3) p.sib) := row11_other HO51_3.out (fun g cs hg hh => (setRow_other _ _ _ _ (by have e : u3 = g := (by simpa [Value.ownBlock] using hg); omega)).trans hh)
        have hb52 : Below X.heap.size X (y51.setRow y45.heap.size (pfC p (.slice (some ⟨u1, 0, none⟩) p.sib.length c1))) := Bt.below_row (hb51) hg5 _
        refine hK.out _ _ (hb52) (fun hHeld => ?_)
        clear hK K
        try simp only [Act.put, List.setIfInBounds_toArray, List.set_cons_zero, List.set_cons_succ]
        refine wpAnyH_ready (rs := [7]) (by kernel_rfl) (by simp) ?_
        refine AllReadyH.cons (o := { dst := none, op := .store _ (.tmp 6) (.tmp 28), type := _, pos := _, after := _, guard := _ }) rfl (fun K hK => ?_) AllReadyH.nil
        have st53 : stA 29 (y51.setRow y45.heap.size (pfC p (.slice (some ⟨u1, 0, none⟩) p.sib.length c1))) (.pointer (some ⟨y0.heap.size, 0, none⟩)) (.agg (pfC p (.slice (some ⟨u3, 0, none⟩) p.sib.length c3))) = .ok .skip ((y51.setRow y45.heap.size (pfC p (.slice (some ⟨u1, 0, none⟩) p.sib.length c1))).setRow y0.heap.size (pfC p (.slice (some ⟨u3, 0, none⟩) p.sib.length c3))) := stA_row HG52_6.out (by rw [pfC_size HPO.out]; exact infoPf) (by rw [pfC_size HPO.out, pfC_size zPf_ok]) (pfC_one _ _ _ _)
        go_simp
        clear st53
        have HG53_6 : Hid (PfAt ((y51.setRow y45.heap.size (pfC p (.slice (some ⟨u1, 0, none⟩) p.sib.length c1))).setRow y0.heap.size (pfC p (.slice (some ⟨u3, 0, none⟩) p.sib.length c3))) y0.heap.size p (.slice (some ⟨u3, 0, none⟩) p.sib.length c3)) := setRow_heap _ _ _ _ _ _ HG52_6.out
        have HG53_5 : Hid (PfAt ((y51.setRow y45.heap.size (pfC p (.slice (some ⟨u1, 0, none⟩) p.sib.length c1))).setRow y0.heap.size (pfC p (.slice (some ⟨u3, 0, none⟩) p.sib.length c3))) y45.heap.size p (.slice (some ⟨u1, 0, none⟩) p.sib.length c1)) := (setRow_other _ _ _ _ (by omega)).trans HG52_5.out
        have HO53_1 : Hid (OwnD ((y51.setRow y45.heap.size (pfC p (.slice (some ⟨u1, 0, none⟩) p.sib.length c1))).setRow y0.heap.size (pfC p (.slice (some ⟨u3, 0, none⟩) p.sib.length c3))) X.heap.size (.slice (some ⟨u1, 0, none⟩) p.sib.length c1) p.sib) := row11_other HO52_1.out (fun g cs hg hh => (setRow_other _ _ _ _ (by have e : u1 = g := (by simpa [Value.ownBlock] using hg); omega)).trans hh)
        have HO53_3 : Hid (OwnD ((y51.setRow y45.heap.size (pfC p (.slice (some ⟨u1, 0, none⟩) p.sib.length c1))).setRow y0.heap.size (pfC p (.slice (some ⟨u3, 0, none⟩) p.sib.length c3))) X.heap.size (.slice (some ⟨u3, 0, none⟩) p.sib.length c3) p.sib) := row11_other HO52_3.out (fun g cs hg hh => (setRow_other _ _ _ _ (by have e : u3 = g := (by simpa [Value.ownBlock] using hg); omega)).trans hh)
        have hb53 : Below X.heap.size X ((y51.setRow y45.heap.size (pfC p (.slice (some ⟨u1, 0, none⟩) p.sib.length c1))).setRow y0.heap.size (pfC p (.slice (some ⟨u3, 0, none⟩) p.sib.length c3))) := Bt.below_row (hb52) hg6 _
        refine hK.out _ _ (hb53) (fun hHeld => ?_)
        clear hK K
        try simp only [Act.put, List.setIfInBounds_toArray, List.set_cons_zero, List.set_cons_succ]
        refine wpAnyH_done (by kernel_rfl) ?_ _
        exact HC.out u1 u3 (y45.heap.size) (y0.heap.size) c1 c3 _ HG53_5.out HG53_6.out HO53_1.out HO53_3.out HCC1.out HCC3.out (by omega) (by omega) (by omega) (by omega) (by omega) (by omega) (by omega) hb53
    · skip
      go_simp
      obtain ⟨y54, hy54⟩ : ∃ y, y = y44.alloc (.cells (pfC zPf (.slice none 0 0)) 29) := ⟨_, rfl⟩
      have hb54 : Below X.heap.size X y54 := by rw [hy54]; exact (hb44).alloc (hb44).size _
      have hq : Below y44.heap.size y44 y54 := by rw [hy54]; exact Bt.one_below _ _
      have hs54 : y44.heap.size + 1 ≤ y54.heap.size := by rw [hy54]; simp
      have HG54_6 := Lib.hid (HG44_6.out.below (hq) HG44_6.out.lt)
      have HG54_5 : Hid (PfAt y54 y44.heap.size zPf (.slice none 0 0)) := by show PfAt _ _ _ _; rw [hy54]; exact PfAt.one _ _ _
      have hg5 : X.heap.size ≤ y44.heap.size := (hb44).size
      rw [← hy54]
      clear hy54 hq
      refine hK.out _ _ (hb54) (fun hHeld => ?_)
      clear hK K
      try simp only [Act.put, List.setIfInBounds_toArray, List.set_cons_zero, List.set_cons_succ]
      refine wpAnyH_ready (rs := [1]) (by kernel_rfl) (by simp) ?_
      refine AllReadyH.cons (o := { dst := some 26, op := .call _, type := _, pos := _, after := _, guard := _ }) rfl (fun K hK => ?_) AllReadyH.nil
      go_simp
      refine (HCL.out y54 (hb54)).mono ?_
      rintro e y55 ⟨A1, c1, rfl, hN, hb⟩
      have hb55 : Below X.heap.size X y55 := keeps (hb54) hb
      have hs55 : y54.heap.size ≤ y55.heap.size := hb.size
      obtain ⟨u1, rfl, hu1, hv1, hO⟩ := clone_row HNE.out hN
      have HG55_6 := Lib.hid (HG54_6.out.below (hb) HG54_6.out.lt)
      have HG55_5 := Lib.hid (HG54_5.out.below (hb) HG54_5.out.lt)
      have hgx1 : X.heap.size ≤ y54.heap.size := (hb54).size
      have HO55_1 : Hid (OwnD y55 X.heap.size (.slice (some ⟨u1, 0, none⟩) p.sib.length c1) p.sib) := hO.mono hgx1
      have HCC1 := Lib.hid hN.1
      clear hb hN hO
      go_wp2_with fail
      refine hK.out _ _ (hb55) (fun hHeld => ?_)
      clear hK K
      try simp only [Act.put, List.setIfInBounds_toArray, List.set_cons_zero, List.set_cons_succ]
      refine wpAnyH_ready (rs := [3]) (by kernel_rfl) (by simp) ?_
      refine AllReadyH.cons (o := { dst := some 28, op := .call _, type := _, pos := _, after := _, guard := _ }) rfl (fun K hK => ?_) AllReadyH.nil
      go_simp
      refine (HCL.out y55 (hb55)).mono ?_
      rintro e y56 ⟨A3, c3, rfl, hN, hb⟩
      have hb56 : Below X.heap.size X y56 := keeps (hb55) hb
      have hs56 : y55.heap.size ≤ y56.heap.size := hb.size
      obtain ⟨u3, rfl, hu3, hv3, hO⟩ := clone_row HNE.out hN
      have HG56_6 := Lib.hid (HG55_6.out.below (hb) HG55_6.out.lt)
      have HG56_5 := Lib.hid (HG55_5.out.below (hb) HG55_5.out.lt)
      have HO56_1 := Lib.hid (HO55_1.out.below (hb))
      have hgx3 : X.heap.size ≤ y55.heap.size := (hb55).size
      have HO56_3 : Hid (OwnD y56 X.heap.size (.slice (some ⟨u3, 0, none⟩) p.sib.length c3) p.sib) := hO.mono hgx3
      have HCC3 := Lib.hid hN.1
      clear hb hN hO
      go_wp2_with fail
      refine hK.out _ _ (hb56) (fun hHeld => ?_)
      clear hK K
      try simp only [Act.put, List.setIfInBounds_toArray, List.set_cons_zero, List.set_cons_succ]
      refine wpAnyH_ready (rs := [6]) (by kernel_rfl) (by simp) ?_
      refine AllReadyH.cons (o := { dst := none, op := .store _ (.tmp 5) (.tmp 26), type := _, pos := _, after := _, guard := _ }) rfl (fun K hK => ?_) AllReadyH.nil
      have st57 : stA 29 y56 (.pointer (some ⟨y44.heap.size, 0, none⟩)) (.agg (pfC p (.slice (some ⟨u1, 0, none⟩) p.sib.length c1))) = .ok .skip (y56.setRow y44.heap.size (pfC p (.slice (some ⟨u1, 0, none⟩) p.sib.length c1))) := stA_row HG56_5.out (by rw [pfC_size HPO.out]; exact infoPf) (by rw [pfC_size HPO.out, pfC_size zPf_ok]) (pfC_one _ _ _ _)
      go_simp
      clear st57
      have HG57_6 : Hid (PfAt (y56.setRow y44.heap.size (pfC p (.slice (some ⟨u1, 0, none⟩) p.sib.length c1))) y0.heap.size zPf (.slice none 0 0)) := (setRow_other _ _ _ _ (by omega)).trans HG56_6.out
      have HG57_5 : Hid (PfAt (y56.setRow y44.heap.size (pfC p (.slice (some ⟨u1, 0, none⟩) p.sib.length c1))) y44.heap.size p (.slice (some ⟨u1, 0, none⟩) p.sib.length c1)) := setRow_heap _ _ _ _ _ _ HG56_5.out
      have HO57_1 : Hid (OwnD (y56.setRow y44.heap.size (pfC p (.slice (some ⟨u1, 0, none⟩) p.sib.length c1))) X.heap.size (.slice (some ⟨u1, 0, none⟩) p.sib.length c1) p.sib) := row11_other HO56_1.out (fun g cs hg hh => (setRow_other _ _ _ _ (by have e : u1 = g := (by simpa [Value.ownBlock] using hg); omega)).trans hh)
      have HO57_3 : Hid (OwnD (y56.setRow y44.heap.size (pfC p (.slice (some ⟨u1, 0, none⟩) p.sib.length c1))) X.heap.size (.slice (some ⟨u3, 0, none⟩) p.sib.length c3) p.sib) := row11_other HO56_3.out (fun g cs hg hh => (setRow_other _ _ _ _ (by have e : u3 = g := (by simpa [Value.ownBlock] using hg); omega)).trans hh)
      have hb57 : Below X.heap.size X (y56.setRow y44.heap.size (pfC p (.slice (some ⟨u1, 0, none⟩) p.sib.length c1))) := Bt.below_row (hb56) hg5 _
      refine hK.out _ _ (hb57) (fun hHeld => ?_)
      clear hK K
      try simp only [Act.put, List.setIfInBounds_toArray, List.set_cons_zero, List.set_cons_succ]
      refine wpAnyH_ready (rs := [7]) (by kernel_rfl) (by simp) ?_
      refine AllReadyH.cons (o := { dst := none, op := .store _ (.tmp 6) (.tmp 28), type := _, pos := _, after := _, guard := _ }) rfl (fun K hK => ?_) AllReadyH.nil
      have st58 : stA 29 (y56.setRow y44.heap.size (pfC p (.slice (some ⟨u1, 0, none⟩) p.sib.length c1))) (.pointer (some ⟨y0.heap.size, 0, none⟩)) (.agg (pfC p (.slice (some ⟨u3, 0, none⟩) p.sib.length c3))) = .ok .skip ((y56.setRow y44.heap.size (pfC p (.slice (some ⟨u1, 0, none⟩) p.sib.length c1))).setRow y0.heap.size (pfC p (.slice (some ⟨u3, 0, none⟩) p.sib.length c3))) := stA_row HG57_6.out (by rw [pfC_size HPO.out]; exact infoPf) (by rw [pfC_size HPO.out, pfC_size zPf_ok]) (pfC_one _ _ _ _)
      go_simp
      clear st58
      have HG58_6 : Hid (PfAt ((y56.setRow y44.heap.size (pfC p (.slice (some ⟨u1, 0, none⟩) p.sib.length c1))).setRow y0.heap.size (pfC p (.slice (some ⟨u3, 0, none⟩) p.sib.length c3))) y0.heap.size p (.slice (some ⟨u3, 0, none⟩) p.sib.length c3)) := setRow_heap _ _ _ _ _ _ HG57_6.out
      have HG58_5 : Hid (PfAt ((y56.setRow y44.heap.size (pfC p (.slice (some ⟨u1, 0, none⟩) p.sib.length c1))).setRow y0.heap.size (pfC p (.slice (some ⟨u3, 0, none⟩) p.sib.length c3))) y44.heap.size p (.slice (some ⟨u1, 0, none⟩) p.sib.length c1)) := (setRow_other _ _ _ _ (by omega)).trans HG57_5.out
      have HO58_1 : Hid (OwnD ((y56.setRow y44.heap.size (pfC p (.slice (some ⟨u1, 0, none⟩) p.sib.length c1))).setRow y0.heap.size (pfC p (.slice (some ⟨u3, 0, none⟩) p.sib.length c3))) X.heap.size (.slice (some ⟨u1, 0, none⟩) p.sib.length c1) p.sib) := row11_other HO57_1.out (fun g cs hg hh => (setRow_other _ _ _ _ (by have e : u1 = g := (by simpa [Value.ownBlock] using hg); omega)).trans hh)
      have HO58_3 : Hid (OwnD ((y56.setRow y44.heap.size (pfC p (.slice (some ⟨u1, 0, none⟩) p.sib.length c1))).setRow y0.heap.size (pfC p (.slice (some ⟨u3, 0, none⟩) p.sib.length c3))) X.heap.size (.slice (some ⟨u3, 0, none⟩) p.sib.length c3) p.sib) := row11_other HO57_3.out (fun g cs hg hh => (setRow_other _ _ _ _ (by have e : u3 = g := (by simpa [Value.ownBlock] using hg); omega)).trans hh)
      have hb58 : Below X.heap.size X ((y56.setRow y44.heap.size (pfC p (.slice (some ⟨u1, 0, none⟩) p.sib.length c1))).setRow y0.heap.size (pfC p (.slice (some ⟨u3, 0, none⟩) p.sib.length c3))) := Bt.below_row (hb57) hg6 _
      refine hK.out _ _ (hb58) (fun hHeld => ?_)
      clear hK K
      try simp only [Act.put, List.setIfInBounds_toArray, List.set_cons_zero, List.set_cons_succ]
      refine wpAnyH_done (by kernel_rfl) ?_ _
      exact HC.out u1 u3 (y44.heap.size) (y0.heap.size) c1 c3 _ HG58_5.out HG58_6.out HO58_1.out HO58_3.out HCC1.out HCC3.out (by omega) (by omega) (by omega) (by omega) (by omega) (by omega) (by omega) hb58
theorem copies15_w {M : World → Int → Tv → Prop} (nd : NdV M) (pv : PtV M) (pf : PfV M) (p : Pf) (A : Option Addr) (c : Nat) (a : Int) (h0 : 0 ≤ a) (h1 : a ≤ 255) (W : World) (hp : p.Ok) (hA : DS W A p.sib) (hc : p.sib.length ≤ c) (hvx : Vars W) (hl : p.sib.length ≤ 4398046511104) :
    Calls Tryd.prog 5 #[.agg (pfC p (.slice A p.sib.length c)), .int .u8 a] W (Aye W) := by
  by_cases h : 300 < p.sib.length ∨ p.sib.length = 0
  · exact copies15_few nd pv pf p A c a W hp hA hc hvx hl h
  · obtain ⟨i, rfl⟩ : ∃ i : Nat, a = i := ⟨a.toNat, by omega⟩
    exact copies15_many nd pv pf p A c i (by omega) W hp hA hc hvx (by omega) (by omega)
end Go.Proofs.YtfeabjcnfgcmkaaDoor
