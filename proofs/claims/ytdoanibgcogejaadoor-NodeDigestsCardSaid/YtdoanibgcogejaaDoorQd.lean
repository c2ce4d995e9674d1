/- The program's Entry (its drawn region by program: gen-tpl7-entry.py). -/
import Derived.Test.YtdoanibgcogejaaDoorQb
import Derived.Test.YtdoanibgcogejaaDoorCl
namespace Go.Proofs.YtdoanibgcogejaaDoor
open Go.RowKit

theorem NewB.mono {w : World} {B B' : Nat} {A : Option Addr} {c : Nat} {l : List UInt8} (h : NewB w B A c l) (hB : B' ≤ B) : NewB w B' A c l := ⟨h.1, h.2.imp id fun h => OwnB.mono h hB⟩
theorem NewB.row {w : World} {B b : Nat} {A : Option Addr} {c : Nat} {l : List UInt8} {cs : Array Value} (h : NewB w B A c l) (hb : b < B) : NewB (w.setRow b cs) B A c l :=
  ⟨h.1, h.2.imp id fun ⟨e0, h⟩ => ⟨e0, h.imp id fun ⟨g, cap, cur, e, hg, hh, hr⟩ => ⟨g, cap, cur, e, hg, by rw [setRow_other _ _ _ _ (by omega)]; exact hh, hr⟩⟩⟩
theorem fl_key {w : World} {g : Nat} {t : TypeId} {fr : Nat × Nat} {r l : List UInt8} {A : Option Addr} {c : Nat} (h : w.heap[g]? = some (.cells (flC r A l c) t fr)) (hr : r.length = 64) : ldA 36 w (.pointer (some ⟨g, 0, none⟩)) = .ok (.value (.agg (bA (r.take 32)))) w :=
  ldA_of (t := 36) (w := w) (b := g) (o := 0) (cs := (r.take 32).map bv) (fun j v hv => by
    have hj : j < 32 := by have := (List.getElem?_eq_some_iff.1 hv).1; simp at this; omega
    rw [Nat.zero_add, cell_of_cells h]
    unfold flC
    simp only [List.getElem?_toArray]
    rw [List.getElem?_append_left (by simp [hr]; omega), ← hv, List.map_take, List.getElem?_take, if_pos hj]) Tryd.underlying36 (by rw [List.length_map, List.length_take, hr]; exact infoKey)
theorem fl_val {w : World} {g : Nat} {t : TypeId} {fr : Nat × Nat} {r l : List UInt8} {A : Option Addr} {c : Nat} (h : w.heap[g]? = some (.cells (flC r A l c) t fr)) (hr : r.length = 64) : w.cell? ⟨g, 64, none⟩ = some (.slice A l.length c) := by
  rw [cell_of_cells h]
  unfold flC
  simp only [List.getElem?_toArray]
  rw [List.getElem?_append_right (by simp [hr])]
  simp [hr]
theorem Mn.ent {w : World} {n : Int} {T : Tv} (h : Mn w n T) : (entT T.tr).k.length = 32 ∧ (entT T.tr).v.length ≤ 1000 ∧ (leafV n T.tr).take 32 = (entT T.tr).k := by
  match T, h with
  | .nil, _ => exact ⟨rfl, Nat.zero_le _, rfl⟩
  | .inner _ _ _, _ => exact ⟨rfl, Nat.zero_le _, rfl⟩
  | .leaf v e, ⟨_, _, _, _, _, he, hl⟩ =>
    have hk : e.k.length = 32 := he.key
    refine ⟨hk, hl, ?_⟩
    show (e.k ++ digL n (valL e.v)).take 32 = e.k
    rw [List.take_append_of_le_length (by omega), List.take_of_length_le (by omega)]
set_option maxHeartbeats 4000000 in
set_option maxRecDepth 100000 in
theorem entry_n (w : World) (n : Int) (T : Tv) (h : Mn w n T) : Calls Tryd.prog 17 #[T.val] w fun e w' => ∃ A c, e = .returned (.agg (enC ⟨(entT T.tr).k, A, (entT T.tr).v, c⟩).toArray) ∧ NewB w' w.heap.size A c (entT T.tr).v ∧ Below w.heap.size w w' := by
  obtain ⟨hkl, hvl, hrk⟩ := h.ent
  have hrl := h.lvl
  obtain ⟨X, hX⟩ : ∃ X, X = w.alloc (.cells (enC ⟨z26, none, [], 0⟩).toArray 39) := ⟨_, rfl⟩
  have hb0 : Below w.heap.size w X := by rw [hX]; exact (Below.refl _ _).alloc (Nat.le_refl _) _
  have r0 : X.heap[w.heap.size]? = some (.cells (enC ⟨z26, none, [], 0⟩).toArray 39 (0, 0)) := by rw [hX]; exact heap_alloc_new w _
  have HC := Lib.hid (asfull_n w X n T h hb0)
  obtain ⟨p, hp⟩ := h.ptr
  rw [hp] at HC ⊢
  obtain ⟨k, hk⟩ : ∃ k, k = (entT T.tr).k := ⟨_, rfl⟩
  obtain ⟨vl, hv⟩ : ∃ vl, vl = (entT T.tr).v := ⟨_, rfl⟩
  obtain ⟨r, hr⟩ : ∃ r, r = leafV n T.tr := ⟨_, rfl⟩
  rw [← hv, ← hr] at HC
  rw [← hk] at hkl hrk
  rw [← hv] at hvl
  rw [← hr] at hrl hrk
  rw [← hk, ← hv]
  have HX := Lib.hid hX
  have HB0 := Lib.hid hb0
  have HRX := Lib.hid r0
  have HKL := Lib.hid hkl
  have HVL : Hid (vl.length ≤ 900000) := by show _ ≤ _; omega
  have HRL := Lib.hid hrl
  have HRK := Lib.hid hrk
  clear h hX hb0 r0 hp hk hv hr hkl hvl hrl hrk
  go_enter Tryd.func17, Tryd.ntmps17
  go_wp2_with fail
  rw [← HX.out]
  refine HC.out.mono ?_
  rintro _ w1 ⟨A, c, rfl, hA, hB⟩
  obtain ⟨L, hL⟩ : ∃ L, L = flC r A vl c := ⟨_, rfl⟩
  have hs : L.size = 65 := by rw [hL]; exact flC_size _ _ _ _ HRL.out
  have st := stA_new (t := 71) w1 (flC z64 none [] 0) L (by rw [hs]; exact infoFull) (by rw [hs]; rfl) (by rw [hL]; exact flC_one _ _ _ _)
  obtain ⟨Y, hY⟩ : ∃ Y, Y = w1.alloc (.cells L 71) := ⟨_, rfl⟩
  have hb1 : Below w1.heap.size w1 Y := by rw [hY]; exact (Below.refl _ _).alloc (Nat.le_refl _) _
  have hb2 : Below X.heap.size X Y := hB.trans (hb1.mono hB.size)
  have hbY : Below w.heap.size w Y := HB0.out.trans (hb2.mono HB0.out.size)
  have r0 : Y.heap[w.heap.size]? = some (.cells (enC ⟨z26, none, [], 0⟩).toArray 39 (0, 0)) := by rw [hb2.block _ (lt_of_heap HRX.out)]; exact HRX.out
  have r1 : Y.heap[w1.heap.size]? = some (.cells (flC r A vl c) 71 (0, 0)) := by rw [hY, hL]; exact heap_alloc_new w1 _
  have hne : w1.heap.size ≠ w.heap.size := by have := lt_of_heap HRX.out; have := hB.size; omega
  have HYB : Hid (∀ w', Keep (fun i => i = w.heap.size) Y w' → Below w.heap.size w w') := fun w' h => hbY.trans (h.below hbY.size fun i hi => by omega)
  have hre : ∀ w', Keep (fun i => i = w.heap.size) Y w' → w'.heap[w1.heap.size]? = some (.cells (flC r A vl c) 71 (0, 0)) := fun w' h => h.heap r1 hne
  have LK : Hid (∀ w', Keep (fun i => i = w.heap.size) Y w' → ldA 36 w' (.pointer (some ⟨w1.heap.size, 0, none⟩)) = .ok (.value (.agg (bA k))) w') := fun w' h => by
    have := fl_key (hre w' h) HRL.out
    rwa [HRK.out] at this
  have LC : Hid (∀ w', Keep (fun i => i = w.heap.size) Y w' → w'.cell? ⟨w1.heap.size, 64, none⟩ = some (.slice A vl.length c)) := fun w' h => fl_val (hre w' h) HRL.out
  have HBA : Hid (∀ w', Keep (fun i => i = w.heap.size) Y w' → BA w' A vl) := fun w' h => hA.below (HYB.out w' h)
  have HSZ : Hid (w.heap.size + 1 ≤ Y.drew.heap.size) := by show _ ≤ Y.heap.size; exact lt_of_heap r0
  have HR0 : Hid (Y.drew.heap[w.heap.size]? = some (.cells (enC ⟨z26, none, [], 0⟩).toArray 39 (0, 0))) := r0
  have HY := Lib.hid hY
  rw [← hL]
  clear hA hB hL hs hY hb1 hb2 hbY r0 r1 hne hre HC
  go_wp2_with fail
  rw [← HY.out]
  clear HY st
  refine wp_region_held_drew (S := fun w' => Keep (fun i => i = w.heap.size) Y w') (by kernel_rfl) ((Keep.refl _ _).drew) (fun hHeld => ?_)
  have hb0 : Keep (fun i => i = w.heap.size) Y Y.drew := (Keep.refl _ _).drew
  refine wpAnyH_take (i := 0) (oi := { dst := some 6, op := .fieldAddr _ (.tmp 3) 0, type := _, pos := _, after := _, guard := _ }) (v := ?_) rfl (by kernel_rfl) (by kernel_rfl) (by kernel_rfl) (fun _ _ _ h => h) (Or.inl ⟨by rfl, ?_⟩) (by assumption) ?_
  rotate_left 1
  · intro v hSv
    clear hSv
    go_simp
    try with_reducible rfl
  try simp only [Act.put, List.setIfInBounds_toArray, List.set_cons_zero, List.set_cons_succ]
  refine wpAnyH_take (i := 1) (oi := { dst := some 7, op := .fieldAddr _ (.tmp 6) 0, type := _, pos := _, after := _, guard := _ }) (v := ?_) rfl (by kernel_rfl) (by kernel_rfl) (by kernel_rfl) (fun _ _ _ h => h) (Or.inl ⟨by rfl, ?_⟩) (by assumption) ?_
  rotate_left 1
  · intro v hSv
    clear hSv
    go_simp
    try with_reducible rfl
  try simp only [Act.put, List.setIfInBounds_toArray, List.set_cons_zero, List.set_cons_succ]
  refine wpAnyH_take (i := 2) (oi := { dst := some 8, op := .load _ (.tmp 7), type := _, pos := _, after := _, guard := _ }) (v := ?_) rfl (by kernel_rfl) (by kernel_rfl) (by kernel_rfl) (fun _ _ _ h => h) (Or.inl ⟨by rfl, ?_⟩) (by assumption) ?_
  rotate_left 1
  · intro v hSv
    have hv1 := LK.out v hSv
    clear hSv
    go_simp
    try with_reducible rfl
  try simp only [Act.put, List.setIfInBounds_toArray, List.set_cons_zero, List.set_cons_succ]
  refine wpAnyH_take (i := 3) (oi := { dst := some 9, op := .fieldAddr _ (.tmp 3) 1, type := _, pos := _, after := _, guard := _ }) (v := ?_) rfl (by kernel_rfl) (by kernel_rfl) (by kernel_rfl) (fun _ _ _ h => h) (Or.inl ⟨by rfl, ?_⟩) (by assumption) ?_
  rotate_left 1
  · intro v hSv
    clear hSv
    go_simp
    try with_reducible rfl
  try simp only [Act.put, List.setIfInBounds_toArray, List.set_cons_zero, List.set_cons_succ]
  refine wpAnyH_take (i := 4) (oi := { dst := some 10, op := .load _ (.tmp 9), type := _, pos := _, after := _, guard := _ }) (v := ?_) rfl (by kernel_rfl) (by kernel_rfl) (by kernel_rfl) (fun _ _ _ h => h) (Or.inl ⟨by rfl, ?_⟩) (by assumption) ?_
  rotate_left 1
  · intro v hSv
    have hv1 := LC.out v hSv
    clear hSv
    go_simp
    try with_reducible rfl
  try simp only [Act.put, List.setIfInBounds_toArray, List.set_cons_zero, List.set_cons_succ]
  refine wpAnyH_ready (rs := [5]) (by kernel_rfl) (by simp) ?_
  refine AllReadyH.cons (o := { dst := some 11, op := .call _, type := _, pos := _, after := _, guard := _ }) rfl (fun K hK => ?_) AllReadyH.nil
  go_simp
  refine (clone_new A vl c Y.drew (HBA.out _ (hb0)) HVL.out).mono ?_
  rintro e y1 ⟨A2, c2, rfl, hN, hb⟩
  have hb1 : Keep (fun i => i = w.heap.size) Y y1 := (hb0).trans (Keep.of_below hb)
  have HR1 := Lib.hid ((Keep.of_below (L := fun _ => False) hb).heap HR0.out fun h => h)
  have HN := Lib.hid hN
  clear hN
  clear hb
  go_wp2_with fail
  refine hK.out _ _ (hb1) (fun hHeld => ?_)
  clear hK K
  try simp only [Act.put, List.setIfInBounds_toArray, List.set_cons_zero, List.set_cons_succ]
  refine wpAnyH_take (i := 6) (oi := { dst := some 12, op := .build _ #[(0, .tmp 8), (1, .tmp 11)], type := _, pos := _, after := _, guard := _ }) (v := ?_) rfl (by kernel_rfl) (by kernel_rfl) (by kernel_rfl) (fun _ _ _ h => h) (Or.inl ⟨by rfl, ?_⟩) (by assumption) ?_
  rotate_left 1
  · intro v hSv
    have hv1 := bldEntry ⟨k, A2, vl, c2⟩ HKL.out v
    clear hSv
    go_simp
    try with_reducible rfl
  try simp only [Act.put, List.setIfInBounds_toArray, List.set_cons_zero, List.set_cons_succ]
  refine wpAnyH_ready (rs := [7]) (by kernel_rfl) (by simp) ?_
  refine AllReadyH.cons (o := { dst := none, op := .store _ (.tmp 2) (.tmp 12), type := _, pos := _, after := _, guard := _ }) rfl (fun K hK => ?_) AllReadyH.nil
  have st1 : stA 39 y1 (.pointer (some ⟨w.heap.size, 0, none⟩)) (.agg (enC ⟨k, A2, vl, c2⟩).toArray) = .ok .skip (y1.setRow w.heap.size (enC ⟨k, A2, vl, c2⟩).toArray) := stA_row HR1.out (by rw [List.size_toArray, enC_len (e := ⟨k, A2, vl, c2⟩) HKL.out]; exact infoEntry) (by rw [List.size_toArray, List.size_toArray, enC_len (e := ⟨k, A2, vl, c2⟩) HKL.out]; rfl) (by rw [List.all_toArray, List.all_eq_true]; exact enC_one _)
  have HM := Lib.hid (setRow_heap y1 w.heap.size _ (enC ⟨k, A2, vl, c2⟩).toArray 39 _ HR1.out)
  have HNF := Lib.hid ((NewB.mono HN.out (show w.heap.size + 1 ≤ _ from HSZ.out)).row (b := w.heap.size) (cs := (enC ⟨k, A2, vl, c2⟩).toArray) (by omega))
  go_simp
  refine hK.out _ _ ((hb1).trans ((Keep.row y1 w.heap.size _).mono fun i hi => hi)) (fun hHeld => ?_)
  clear hK K
  try simp only [Act.put, List.setIfInBounds_toArray, List.set_cons_zero, List.set_cons_succ]
  refine wpAnyH_done (by kernel_rfl) ?_ _
  go_wp2_with fail
  refine bodyPost_ret (v := .agg (enC ⟨k, A2, vl, c2⟩).toArray) ?_ rfl ⟨A2, c2, rfl, NewB.mono HNF.out (Nat.le_succ _), HYB.out _ ((hb1).trans ((Keep.row y1 w.heap.size _).mono fun i hi => hi))⟩
  exact results_cell_row Tryd.results17 _ _ w.heap.size 39 _ (0, 0) _ rfl HM.out Tryd.underlying39 rfl (by rw [List.size_toArray, enC_len (e := ⟨k, A2, vl, c2⟩) HKL.out]; exact infoEntry)
end Go.Proofs.YtdoanibgcogejaaDoor
