/- The function of BitmapChanges returns true (its region by program: gen-tpl14-changes.py). -/
import Derived.Test.YtpdmkojclgkcnaaHk
import Derived.Deep.RegionHeld
namespace Go.Proofs.Ytpdmkojclgkcnaa.Bt
open Go.RowKit

def cntK (k : Nat → Nat) : Int := (setZ k 256).length
theorem len14_c (k : Nat → Nat) (hk : Byt k) (w : World) : Calls Try.prog 16 #[.agg (kc k)] w fun e w' => e = .returned (.int .i64 (cntK k)) ∧ Below w.heap.size w w' := len_c k hk w
set_option maxHeartbeats 8000000 in
set_option maxRecDepth 100000 in
theorem bchanges_w (k : Nat → Nat) (hk : Byt k) (i j : Int) (w : World) : Calls Try.prog 5 #[.agg (kc k), .int .i64 i, .int .i64 j] w (Yes w) := by
  obtain ⟨kw, hkw⟩ : ∃ kw, kw = insK k i := ⟨_, rfl⟩
  obtain ⟨ko, hko⟩ : ∃ ko, ko = delK k i := ⟨_, rfl⟩
  have hbw : Byt kw := hkw ▸ insK_byt hk i
  have hbo : Byt ko := hko ▸ delK_byt hk i
  have HWI : Hid (∀ w, Calls Try.prog 14 #[.agg (kc k), .int .i64 i] w fun e w' => e = .returned (.agg (kc kw)) ∧ Below w.heap.size w w') := fun w => by rw [hkw]; exact with_c k hk i w
  have HWO : Hid (∀ w, Calls Try.prog 15 #[.agg (kc k), .int .i64 i] w fun e w' => e = .returned (.agg (kc ko)) ∧ Below w.heap.size w w') := fun w => by rw [hko]; exact without_c k hk i w
  have HKW := Lib.hid hkw
  have HKO := Lib.hid hko
  have HBK := Lib.hid hk
  have HBW := Lib.hid hbw
  have HBO := Lib.hid hbo
  clear hkw hko hk hbw hbo
  obtain ⟨X, hX⟩ : ∃ X, X = w.alloc (.cells (kc k) 25) := ⟨_, rfl⟩
  have HX := Lib.hid hX
  have hb : Below w.heap.size w X := by rw [hX]; exact one_below _ _
  have hk0 : BmAt X w.heap.size k := by rw [hX]; exact BmAt.one _ _
  have HKX := Lib.hid hk0
  have HX0 : Hid (w.heap.size < X.heap.size) := hk0.lt
  have HBX : Hid (∀ w', Below X.heap.size X w' → Below w.heap.size w w') := fun w' h => keeps hb h
  have LD : Hid (∀ w', Below X.heap.size X w' → ldBm w' (.pointer (some ⟨w.heap.size, 0, none⟩)) = .ok (.value (.agg (kc k))) w') := fun w' h => (hk0.below h hk0.lt).ld
  clear hX hb hk0
  go_enter Try.func5, Try.ntmps5
  go_wp2_with fail
  rw [← HX.out]
  clear HX
  rename_i K0 hK0
  have HC : Hid (∀ (g7 g8 : Nat) (wf : World), BmAt wf w.heap.size k → BmAt wf g7 kw → BmAt wf g8 ko → Below w.heap.size w wf → K0 { tmps := #[.agg (kc k), .int .i64 i, .int .i64 j, .pointer (some ⟨w.heap.size, 0, none⟩), undef, undef, .bool false, .pointer (some ⟨g7, 0, none⟩), .pointer (some ⟨g8, 0, none⟩), .agg (kc k), .int .i64 i, .agg (kc kw), .agg (kc k), .int .i64 i, .agg (kc ko), undef, undef, undef, undef, undef, undef, undef, undef, undef, undef, undef, undef, undef, undef, undef, undef, undef, undef, undef, undef, undef, undef, undef, undef, undef, undef, undef, undef, undef, undef, undef, undef, undef, undef, undef, undef, undef, undef, undef, undef, undef, undef, undef, undef, undef, undef, undef, undef, undef, undef, undef, undef, undef, undef, undef, undef, undef, undef, undef, undef, undef, undef, undef, undef, undef, undef, undef, undef, undef, undef, undef, undef, undef, undef], defers := [] } wf) := by
    intro g7 g8 wf hA h7 h8 hB
    have HA := Lib.hid hA
    have H7 := Lib.hid h7
    have H8 := Lib.hid h8
    have HB := Lib.hid hB
    clear hA h7 h8 hB
    by_cases hr : i < 0 ∨ 255 < i
    · have q1 : keq kw k = true := by rw [HKW.out, insK_out k i (by omega)]; exact keq_refl k
      have q2 : keq ko k = true := by rw [HKO.out, delK_out k i (by omega)]; exact keq_refl k
      by_cases h0 : i < 0
      · have d1 : decide (i < 0) = true := by simpa using h0
        clear hr h0
        go_wp2_with fail
        refine (alive14_c _).mono ?_
        rintro e wz ⟨rfl, hbz⟩
        have la := (HA.out.below hbz HA.out.lt).ld
        have l7 := (H7.out.below hbz H7.out.lt).ld
        have l8 := (H8.out.below hbz H8.out.lt).ld
        have HBZ := Lib.hid (HB.out.trans (hbz.mono HB.out.size))
        clear hbz
        go_wp2
        go_ret
        exact ⟨rfl, HBZ.out⟩
      · have d1 : decide (i < 0) = false := by simpa using h0
        have d2 : decide (255 < i) = true := by simp; omega
        clear hr h0
        go_wp2_with fail
        refine (alive14_c _).mono ?_
        rintro e wz ⟨rfl, hbz⟩
        have la := (HA.out.below hbz HA.out.lt).ld
        have l7 := (H7.out.below hbz H7.out.lt).ld
        have l8 := (H8.out.below hbz H8.out.lt).ld
        have HBZ := Lib.hid (HB.out.trans (hbz.mono HB.out.size))
        clear hbz
        go_wp2
        go_ret
        exact ⟨rfl, HBZ.out⟩
    · obtain ⟨n, hn⟩ : ∃ n : Nat, i = n := ⟨i.toNat, by omega⟩
      have hn2 : n < 256 := by omega
      have d1 : decide (i < 0) = false := by simp; omega
      have d2 : decide (255 < i) = false := by simp; omega
      have e1 : hasK kw i = true := by rw [HKW.out, hn]; exact hasK_ins k n hn2
      have e2 : hasK ko i = false := by rw [HKO.out, hn]; exact hasK_del k n hn2
      have e3 : insK ko i = kw := by rw [HKO.out, HKW.out, hn]; exact ins_del k n hn2
      have e4 : delK kw i = ko := by rw [HKO.out, HKW.out, hn]; exact del_ins k n hn2
      have e5 : cntK kw = cntK ko + 1 := by
        unfold cntK
        rw [HKO.out, HKW.out, hn, len_changes k n 256 (Nat.le_refl _), if_pos hn2]; simp
      have e6 : 0 ≤ cntK ko ∧ cntK ko ≤ 256 := by
        have := setZ_len ko 256
        unfold cntK; omega
      have e7 := e6.1
      have e8 := e6.2
      have q1 := keq_refl kw
      have q2 := keq_refl ko
      have hcc : (cntK ko + 1 == cntK ko + 1) = true := by simp
      have hbk := HBK.out
      have hbw := HBW.out
      have hbo := HBO.out
      have la := fun x : Later wf => (HA.out.below x.h HA.out.lt).ld
      have l7 := fun x : Later wf => (H7.out.below x.h H7.out.lt).ld
      have l8 := fun x : Later wf => (H8.out.below x.h H8.out.lt).ld
      clear hr hn e6
      by_cases hij : i = j
      · have d3 : (i == j) = true := by simpa using hij
        clear hij hn2
        go_wp2_with fail
        refine wp_region_later (by kernel_rfl) (by kernel_rfl) ?_
        repeat (go_big_quiet_step ((first | (go_at_call 9; exact Later.call (alive14_c _)) | (go_at_call 12; exact Later.call (has_c _ (by assumption) _ _)) | (go_at_call 16; exact Later.call (len14_c _ (by assumption) _)) | (go_at_call 14; exact Later.call (with_c _ (by assumption) _ _)) | (go_at_call 15; exact Later.call (without_c _ (by assumption) _ _)))))
        refine wpQuiet_nil ?_
        rintro _ ⟨x, rfl⟩
        have HBZ := Lib.hid (HB.out.trans (x.h.mono HB.out.size))
        clear la l7 l8
        go_wp2
        go_ret
        exact ⟨rfl, HBZ.out⟩
      · have d3 : (i == j) = false := by simpa using hij
        obtain ⟨q, hq⟩ : ∃ q, q = hasK k j := ⟨_, rfl⟩
        have f1 : hasK kw j = q := by rw [HKW.out, hq]; exact hasK_ins_other k i j hij
        have f2 : hasK ko j = q := by rw [HKO.out, hq]; exact hasK_del_other k i j hij
        have f3 : hasK k j = q := hq.symm
        have f4 : (q == q) = true := by simp
        clear hij hn2 hq
        go_wp2_with fail
        refine wp_region_later (by kernel_rfl) (by kernel_rfl) ?_
        repeat (go_big_quiet_step ((first | (go_at_call 9; exact Later.call (alive14_c _)) | (go_at_call 12; exact Later.call (has_c _ (by assumption) _ _)) | (go_at_call 16; exact Later.call (len14_c _ (by assumption) _)) | (go_at_call 14; exact Later.call (with_c _ (by assumption) _ _)) | (go_at_call 15; exact Later.call (without_c _ (by assumption) _ _)))))
        refine wpQuiet_nil ?_
        rintro _ ⟨x, rfl⟩
        have HBZ := Lib.hid (HB.out.trans (x.h.mono HB.out.size))
        clear la l7 l8
        go_wp2
        go_ret
        exact ⟨rfl, HBZ.out⟩
  clear hK0
  refine wp_region_held_drew (S := fun w' => Below X.heap.size X w') (by kernel_rfl) ((Below.refl _ _).drew) (fun hHeld => ?_)
  obtain ⟨y0, hy0⟩ : ∃ y, y = X.drew := ⟨_, rfl⟩
  have hb0 : Below X.heap.size X y0 := by rw [hy0]; exact (Below.refl _ _).drew
  have HG0_k : Hid (BmAt y0 w.heap.size k) := by show BmAt _ _ _; rw [hy0]; exact HKX.out
  try rw [← hy0] at hHeld
  rw [← hy0]
  clear hy0
  refine wpAnyH_take (i := 0) (oi := { dst := some 9, op := .load _ (.tmp 3), type := _, pos := _, after := _, guard := _ }) (v := ?_) rfl (by kernel_rfl) (by kernel_rfl) (by kernel_rfl) (fun _ _ _ h => h) (Or.inl ⟨by rfl, ?_⟩) (by assumption) ?_
  rotate_left 1
  · intro v hSv
    have hv1 := LD.out v hSv
    clear hSv
    go_simp
    try with_reducible rfl
  try simp only [Act.put, List.setIfInBounds_toArray, List.set_cons_zero, List.set_cons_succ]
  refine wpAnyH_take (i := 1) (oi := { dst := some 10, op := .move (.tmp 1), type := _, pos := _, after := _, guard := _ }) (v := ?_) rfl (by kernel_rfl) (by kernel_rfl) (by kernel_rfl) (fun _ _ _ h => h) (Or.inl ⟨by rfl, ?_⟩) (by assumption) ?_
  rotate_left 1
  · intro v hSv
    clear hSv
    go_simp
    try with_reducible rfl
  try simp only [Act.put, List.setIfInBounds_toArray, List.set_cons_zero, List.set_cons_succ]
  refine wpAnyH_take (i := 3) (oi := { dst := some 12, op := .load _ (.tmp 3), type := _, pos := _, after := _, guard := _ }) (v := ?_) rfl (by kernel_rfl) (by kernel_rfl) (by kernel_rfl) (fun _ _ _ h => h) (Or.inl ⟨by rfl, ?_⟩) (by assumption) ?_
  rotate_left 1
  · intro v hSv
    have hv1 := LD.out v hSv
    clear hSv
    go_simp
    try with_reducible rfl
  try simp only [Act.put, List.setIfInBounds_toArray, List.set_cons_zero, List.set_cons_succ]
  refine wpAnyH_take (i := 4) (oi := { dst := some 13, op := .move (.tmp 1), type := _, pos := _, after := _, guard := _ }) (v := ?_) rfl (by kernel_rfl) (by kernel_rfl) (by kernel_rfl) (fun _ _ _ h => h) (Or.inl ⟨by rfl, ?_⟩) (by assumption) ?_
  rotate_left 1
  · intro v hSv
    clear hSv
    go_simp
    try with_reducible rfl
  try simp only [Act.put, List.setIfInBounds_toArray, List.set_cons_zero, List.set_cons_succ]
  refine wpAnyH_ready (rs := [2, 6, 7]) (by kernel_rfl) (by simp) ?_
  refine AllReadyH.cons (o := { dst := some 11, op := .call _, type := _, pos := _, after := _, guard := _ }) rfl (fun K hK => ?_) (AllReadyH.cons (o := { dst := some 7, op := .alloc _, type := _, pos := _, after := _, guard := _ }) rfl (fun K hK => ?_) (AllReadyH.cons (o := { dst := some 8, op := .alloc _, type := _, pos := _, after := _, guard := _ }) rfl (fun K hK => ?_) (AllReadyH.nil)))
  · skip
    go_simp
    refine (HWI.out _).mono ?_
    rintro e y1 ⟨rfl, hb⟩
    have hb1 : Below X.heap.size X y1 := keeps (hb0) hb
    have HG1_k := Lib.hid (HG0_k.out.below (hb) HG0_k.out.lt)
    clear hb
    go_wp2_with fail
    refine hK.out _ _ (hb1) (fun hHeld => ?_)
    clear hK K
    try simp only [Act.put, List.setIfInBounds_toArray, List.set_cons_zero, List.set_cons_succ]
    refine wpAnyH_ready (rs := [5, 6, 7]) (by kernel_rfl) (by simp) ?_
    refine AllReadyH.cons (o := { dst := some 14, op := .call _, type := _, pos := _, after := _, guard := _ }) rfl (fun K hK => ?_) (AllReadyH.cons (o := { dst := some 7, op := .alloc _, type := _, pos := _, after := _, guard := _ }) rfl (fun K hK => ?_) (AllReadyH.cons (o := { dst := some 8, op := .alloc _, type := _, pos := _, after := _, guard := _ }) rfl (fun K hK => ?_) (AllReadyH.nil)))
    · skip
      go_simp
      refine (HWO.out _).mono ?_
      rintro e y2 ⟨rfl, hb⟩
      have hb2 : Below X.heap.size X y2 := keeps (hb1) hb
      have HG2_k := Lib.hid (HG1_k.out.below (hb) HG1_k.out.lt)
      clear hb
      go_wp2_with fail
      refine hK.out _ _ (hb2) (fun hHeld => ?_)
      clear hK K
      try simp only [Act.put, List.setIfInBounds_toArray, List.set_cons_zero, List.set_cons_succ]
      refine wpAnyH_ready (rs := [6, 7]) (by kernel_rfl) (by simp) ?_
      refine AllReadyH.cons (o := { dst := some 7, op := .alloc _, type := _, pos := _, after := _, guard := _ }) rfl (fun K hK => ?_) (AllReadyH.cons (o := { dst := some 8, op := .alloc _, type := _, pos := _, after := _, guard := _ }) rfl (fun K hK => ?_) (AllReadyH.nil))
      · skip
        go_simp
        obtain ⟨y3, hy3⟩ : ∃ y, y = y2.alloc (.cells (kc kz) 25) := ⟨_, rfl⟩
        have hb3 : Below X.heap.size X y3 := by rw [hy3]; exact made_bel (hb2) _
        have hq : Below y2.heap.size y2 y3 := by rw [hy3]; exact one_below _ _
        have HG3_k := Lib.hid (HG2_k.out.below (hq) HG2_k.out.lt)
        have HG3_7 : Hid (BmAt y3 y2.heap.size kz) := by show BmAt _ _ _; rw [hy3]; exact BmAt.one _ _
        have hle7 : X.heap.size ≤ y2.heap.size := (hb2).size
        rw [← hy3]
        clear hy3 hq
        refine hK.out _ _ (hb3) (fun hHeld => ?_)
        clear hK K
        try simp only [Act.put, List.setIfInBounds_toArray, List.set_cons_zero, List.set_cons_succ]
        refine wpAnyH_ready (rs := [7]) (by kernel_rfl) (by simp) ?_
        refine AllReadyH.cons (o := { dst := some 8, op := .alloc _, type := _, pos := _, after := _, guard := _ }) rfl (fun K hK => ?_) AllReadyH.nil
        go_simp
        obtain ⟨y4, hy4⟩ : ∃ y, y = y3.alloc (.cells (kc kz) 25) := ⟨_, rfl⟩
        have hb4 : Below X.heap.size X y4 := by rw [hy4]; exact made_bel (hb3) _
        have hq : Below y3.heap.size y3 y4 := by rw [hy4]; exact one_below _ _
        have hne : y2.heap.size ≠ y3.heap.size := by have := HG3_7.out.lt; omega
        have HG4_k := Lib.hid (HG3_k.out.below (hq) HG3_k.out.lt)
        have HG4_7 := Lib.hid (HG3_7.out.below (hq) HG3_7.out.lt)
        have HG4_8 : Hid (BmAt y4 y3.heap.size kz) := by show BmAt _ _ _; rw [hy4]; exact BmAt.one _ _
        have hle8 : X.heap.size ≤ y3.heap.size := (hb3).size
        rw [← hy4]
        clear hy4 hq
        refine hK.out _ _ (hb4) (fun hHeld => ?_)
        clear hK K
        try simp only [Act.put, List.setIfInBounds_toArray, List.set_cons_zero, List.set_cons_succ]
        refine wpAnyH_ready (rs := [8]) (by kernel_rfl) (by simp) ?_
        refine AllReadyH.cons (o := { dst := none, op := .store _ (.tmp 7) (.tmp 11), type := _, pos := _, after := _, guard := _ }) rfl (fun K hK => ?_) AllReadyH.nil
        have st5 := HG4_7.out.st kw
        go_simp
        clear st5
        have HG5_k := Lib.hid (HG4_k.out.row_other (c := y2.heap.size) (by have := HX0.out; omega) (kc kw))
        have HG5_7 := Lib.hid (HG4_7.out.row kw)
        have HG5_8 := Lib.hid (HG4_8.out.row_other (c := y2.heap.size) (by omega) (kc kw))
        refine hK.out _ _ ((below_row (hb4) hle7 (kc kw))) (fun hHeld => ?_)
        clear hK K
        try simp only [Act.put, List.setIfInBounds_toArray, List.set_cons_zero, List.set_cons_succ]
        refine wpAnyH_ready (rs := [9]) (by kernel_rfl) (by simp) ?_
        refine AllReadyH.cons (o := { dst := none, op := .store _ (.tmp 8) (.tmp 14), type := _, pos := _, after := _, guard := _ }) rfl (fun K hK => ?_) AllReadyH.nil
        have st6 := HG5_8.out.st ko
        go_simp
        clear st6
        have HG6_k := Lib.hid (HG5_k.out.row_other (c := y3.heap.size) (by have := HX0.out; omega) (kc ko))
        have HG6_7 := Lib.hid (HG5_7.out.row_other (c := y3.heap.size) (by omega) (kc ko))
        have HG6_8 := Lib.hid (HG5_8.out.row ko)
        refine hK.out _ _ ((below_row ((below_row (hb4) hle7 (kc kw))) hle8 (kc ko))) (fun hHeld => ?_)
        clear hK K
        try simp only [Act.put, List.setIfInBounds_toArray, List.set_cons_zero, List.set_cons_succ]
        refine wpAnyH_done (by kernel_rfl) ?_ _
        exact HC.out y2.heap.size y3.heap.size _ HG6_k.out HG6_7.out HG6_8.out (HBX.out _ (below_row ((below_row (hb4) hle7 (kc kw))) hle8 (kc ko)))
      · skip
        go_simp
        obtain ⟨y7, hy7⟩ : ∃ y, y = y2.alloc (.cells (kc kz) 25) := ⟨_, rfl⟩
        have hb7 : Below X.heap.size X y7 := by rw [hy7]; exact made_bel (hb2) _
        have hq : Below y2.heap.size y2 y7 := by rw [hy7]; exact one_below _ _
        have HG7_k := Lib.hid (HG2_k.out.below (hq) HG2_k.out.lt)
        have HG7_8 : Hid (BmAt y7 y2.heap.size kz) := by show BmAt _ _ _; rw [hy7]; exact BmAt.one _ _
        have hle8 : X.heap.size ≤ y2.heap.size := (hb2).size
        rw [← hy7]
        clear hy7 hq
        refine hK.out _ _ (hb7) (fun hHeld => ?_)
        clear hK K
        try simp only [Act.put, List.setIfInBounds_toArray, List.set_cons_zero, List.set_cons_succ]
        refine wpAnyH_ready (rs := [6]) (by kernel_rfl) (by simp) ?_
        refine AllReadyH.cons (o := { dst := some 7, op := .alloc _, type := _, pos := _, after := _, guard := _ }) rfl (fun K hK => ?_) AllReadyH.nil
        go_simp
        obtain ⟨y8, hy8⟩ : ∃ y, y = y7.alloc (.cells (kc kz) 25) := ⟨_, rfl⟩
        have hb8 : Below X.heap.size X y8 := by rw [hy8]; exact made_bel (hb7) _
        have hq : Below y7.heap.size y7 y8 := by rw [hy8]; exact one_below _ _
        have hne : y2.heap.size ≠ y7.heap.size := by have := HG7_8.out.lt; omega
        have HG8_k := Lib.hid (HG7_k.out.below (hq) HG7_k.out.lt)
        have HG8_8 := Lib.hid (HG7_8.out.below (hq) HG7_8.out.lt)
        have HG8_7 : Hid (BmAt y8 y7.heap.size kz) := by show BmAt _ _ _; rw [hy8]; exact BmAt.one _ _
        have hle7 : X.heap.size ≤ y7.heap.size := (hb7).size
        rw [← hy8]
        clear hy8 hq
        refine hK.out _ _ (hb8) (fun hHeld => ?_)
        clear hK K
        try simp only [Act.put, List.setIfInBounds_toArray, List.set_cons_zero, List.set_cons_succ]
        refine wpAnyH_ready (rs := [8]) (by kernel_rfl) (by simp) ?_
        refine AllReadyH.cons (o := { dst := none, op := .store _ (.tmp 7) (.tmp 11), type := _, pos := _, after := _, guard := _ }) rfl (fun K hK => ?_) AllReadyH.nil
        have st9 := HG8_7.out.st kw
        go_simp
        clear st9
        have HG9_k := Lib.hid (HG8_k.out.row_other (c := y7.heap.size) (by have := HX0.out; omega) (kc kw))
        have HG9_8 := Lib.hid (HG8_8.out.row_other (c := y7.heap.size) (by omega) (kc kw))
        have HG9_7 := Lib.hid (HG8_7.out.row kw)
        refine hK.out _ _ ((below_row (hb8) hle7 (kc kw))) (fun hHeld => ?_)
        clear hK K
        try simp only [Act.put, List.setIfInBounds_toArray, List.set_cons_zero, List.set_cons_succ]
        refine wpAnyH_ready (rs := [9]) (by kernel_rfl) (by simp) ?_
        refine AllReadyH.cons (o := { dst := none, op := .store _ (.tmp 8) (.tmp 14), type := _, pos := _, after := _, guard := _ }) rfl (fun K hK => ?_) AllReadyH.nil
        have st10 := HG9_8.out.st ko
        go_simp
        clear st10
        have HG10_k := Lib.hid (HG9_k.out.row_other (c := y2.heap.size) (by have := HX0.out; omega) (kc ko))
        have HG10_8 := Lib.hid (HG9_8.out.row ko)
        have HG10_7 := Lib.hid (HG9_7.out.row_other (c := y2.heap.size) (by omega) (kc ko))
        refine hK.out _ _ ((below_row ((below_row (hb8) hle7 (kc kw))) hle8 (kc ko))) (fun hHeld => ?_)
        clear hK K
        try simp only [Act.put, List.setIfInBounds_toArray, List.set_cons_zero, List.set_cons_succ]
        refine wpAnyH_done (by kernel_rfl) ?_ _
        exact HC.out y7.heap.size y2.heap.size _ HG10_k.out HG10_7.out HG10_8.out (HBX.out _ (below_row ((below_row (hb8) hle7 (kc kw))) hle8 (kc ko)))
    · skip
      go_simp
      obtain ⟨y11, hy11⟩ : ∃ y, y = y1.alloc (.cells (kc kz) 25) := ⟨_, rfl⟩
      have hb11 : Below X.heap.size X y11 := by rw [hy11]; exact made_bel (hb1) _
      have hq : Below y1.heap.size y1 y11 := by rw [hy11]; exact one_below _ _
      have HG11_k := Lib.hid (HG1_k.out.below (hq) HG1_k.out.lt)
      have HG11_7 : Hid (BmAt y11 y1.heap.size kz) := by show BmAt _ _ _; rw [hy11]; exact BmAt.one _ _
      have hle7 : X.heap.size ≤ y1.heap.size := (hb1).size
      rw [← hy11]
      clear hy11 hq
      refine hK.out _ _ (hb11) (fun hHeld => ?_)
      clear hK K
      try simp only [Act.put, List.setIfInBounds_toArray, List.set_cons_zero, List.set_cons_succ]
      refine wpAnyH_ready (rs := [5, 7]) (by kernel_rfl) (by simp) ?_
      refine AllReadyH.cons (o := { dst := some 14, op := .call _, type := _, pos := _, after := _, guard := _ }) rfl (fun K hK => ?_) (AllReadyH.cons (o := { dst := some 8, op := .alloc _, type := _, pos := _, after := _, guard := _ }) rfl (fun K hK => ?_) (AllReadyH.nil))
      · skip
        go_simp
        refine (HWO.out _).mono ?_
        rintro e y12 ⟨rfl, hb⟩
        have hb12 : Below X.heap.size X y12 := keeps (hb11) hb
        have HG12_k := Lib.hid (HG11_k.out.below (hb) HG11_k.out.lt)
        have HG12_7 := Lib.hid (HG11_7.out.below (hb) HG11_7.out.lt)
        clear hb
        go_wp2_with fail
        refine hK.out _ _ (hb12) (fun hHeld => ?_)
        clear hK K
        try simp only [Act.put, List.setIfInBounds_toArray, List.set_cons_zero, List.set_cons_succ]
        refine wpAnyH_ready (rs := [7]) (by kernel_rfl) (by simp) ?_
        refine AllReadyH.cons (o := { dst := some 8, op := .alloc _, type := _, pos := _, after := _, guard := _ }) rfl (fun K hK => ?_) AllReadyH.nil
        go_simp
        obtain ⟨y13, hy13⟩ : ∃ y, y = y12.alloc (.cells (kc kz) 25) := ⟨_, rfl⟩
        have hb13 : Below X.heap.size X y13 := by rw [hy13]; exact made_bel (hb12) _
        have hq : Below y12.heap.size y12 y13 := by rw [hy13]; exact one_below _ _
        have hne : y1.heap.size ≠ y12.heap.size := by have := HG12_7.out.lt; omega
        have HG13_k := Lib.hid (HG12_k.out.below (hq) HG12_k.out.lt)
        have HG13_7 := Lib.hid (HG12_7.out.below (hq) HG12_7.out.lt)
        have HG13_8 : Hid (BmAt y13 y12.heap.size kz) := by show BmAt _ _ _; rw [hy13]; exact BmAt.one _ _
        have hle8 : X.heap.size ≤ y12.heap.size := (hb12).size
        rw [← hy13]
        clear hy13 hq
        refine hK.out _ _ (hb13) (fun hHeld => ?_)
        clear hK K
        try simp only [Act.put, List.setIfInBounds_toArray, List.set_cons_zero, List.set_cons_succ]
        refine wpAnyH_ready (rs := [8]) (by kernel_rfl) (by simp) ?_
        refine AllReadyH.cons (o := { dst := none, op := .store _ (.tmp 7) (.tmp 11), type := _, pos := _, after := _, guard := _ }) rfl (fun K hK => ?_) AllReadyH.nil
        have st14 := HG13_7.out.st kw
        go_simp
        clear st14
        have HG14_k := Lib.hid (HG13_k.out.row_other (c := y1.heap.size) (by have := HX0.out; omega) (kc kw))
        have HG14_7 := Lib.hid (HG13_7.out.row kw)
        have HG14_8 := Lib.hid (HG13_8.out.row_other (c := y1.heap.size) (by omega) (kc kw))
        refine hK.out _ _ ((below_row (hb13) hle7 (kc kw))) (fun hHeld => ?_)
        clear hK K
        try simp only [Act.put, List.setIfInBounds_toArray, List.set_cons_zero, List.set_cons_succ]
        refine wpAnyH_ready (rs := [9]) (by kernel_rfl) (by simp) ?_
        refine AllReadyH.cons (o := { dst := none, op := .store _ (.tmp 8) (.tmp 14), type := _, pos := _, after := _, guard := _ }) rfl (fun K hK => ?_) AllReadyH.nil
        have st15 := HG14_8.out.st ko
        go_simp
        clear st15
        have HG15_k := Lib.hid (HG14_k.out.row_other (c := y12.heap.size) (by have := HX0.out; omega) (kc ko))
        have HG15_7 := Lib.hid (HG14_7.out.row_other (c := y12.heap.size) (by omega) (kc ko))
        have HG15_8 := Lib.hid (HG14_8.out.row ko)
        refine hK.out _ _ ((below_row ((below_row (hb13) hle7 (kc kw))) hle8 (kc ko))) (fun hHeld => ?_)
        clear hK K
        try simp only [Act.put, List.setIfInBounds_toArray, List.set_cons_zero, List.set_cons_succ]
        refine wpAnyH_done (by kernel_rfl) ?_ _
        exact HC.out y1.heap.size y12.heap.size _ HG15_k.out HG15_7.out HG15_8.out (HBX.out _ (below_row ((below_row (hb13) hle7 (kc kw))) hle8 (kc ko)))
      · skip
        go_simp
        obtain ⟨y16, hy16⟩ : ∃ y, y = y11.alloc (.cells (kc kz) 25) := ⟨_, rfl⟩
        have hb16 : Below X.heap.size X y16 := by rw [hy16]; exact made_bel (hb11) _
        have hq : Below y11.heap.size y11 y16 := by rw [hy16]; exact one_below _ _
        have hne : y1.heap.size ≠ y11.heap.size := by have := HG11_7.out.lt; omega
        have HG16_k := Lib.hid (HG11_k.out.below (hq) HG11_k.out.lt)
        have HG16_7 := Lib.hid (HG11_7.out.below (hq) HG11_7.out.lt)
        have HG16_8 : Hid (BmAt y16 y11.heap.size kz) := by show BmAt _ _ _; rw [hy16]; exact BmAt.one _ _
        have hle8 : X.heap.size ≤ y11.heap.size := (hb11).size
        rw [← hy16]
        clear hy16 hq
        refine hK.out _ _ (hb16) (fun hHeld => ?_)
        clear hK K
        try simp only [Act.put, List.setIfInBounds_toArray, List.set_cons_zero, List.set_cons_succ]
        refine wpAnyH_ready (rs := [5]) (by kernel_rfl) (by simp) ?_
        refine AllReadyH.cons (o := { dst := some 14, op := .call _, type := _, pos := _, after := _, guard := _ }) rfl (fun K hK => ?_) AllReadyH.nil
        go_simp
        refine (HWO.out _).mono ?_
        rintro e y17 ⟨rfl, hb⟩
        have hb17 : Below X.heap.size X y17 := keeps (hb16) hb
        have HG17_k := Lib.hid (HG16_k.out.below (hb) HG16_k.out.lt)
        have HG17_7 := Lib.hid (HG16_7.out.below (hb) HG16_7.out.lt)
        have HG17_8 := Lib.hid (HG16_8.out.below (hb) HG16_8.out.lt)
        clear hb
        go_wp2_with fail
        refine hK.out _ _ (hb17) (fun hHeld => ?_)
        clear hK K
        try simp only [Act.put, List.setIfInBounds_toArray, List.set_cons_zero, List.set_cons_succ]
        refine wpAnyH_ready (rs := [8]) (by kernel_rfl) (by simp) ?_
        refine AllReadyH.cons (o := { dst := none, op := .store _ (.tmp 7) (.tmp 11), type := _, pos := _, after := _, guard := _ }) rfl (fun K hK => ?_) AllReadyH.nil
        have st18 := HG17_7.out.st kw
        go_simp
        clear st18
        have HG18_k := Lib.hid (HG17_k.out.row_other (c := y1.heap.size) (by have := HX0.out; omega) (kc kw))
        have HG18_7 := Lib.hid (HG17_7.out.row kw)
        have HG18_8 := Lib.hid (HG17_8.out.row_other (c := y1.heap.size) (by omega) (kc kw))
        refine hK.out _ _ ((below_row (hb17) hle7 (kc kw))) (fun hHeld => ?_)
        clear hK K
        try simp only [Act.put, List.setIfInBounds_toArray, List.set_cons_zero, List.set_cons_succ]
        refine wpAnyH_ready (rs := [9]) (by kernel_rfl) (by simp) ?_
        refine AllReadyH.cons (o := { dst := none, op := .store _ (.tmp 8) (.tmp 14), type := _, pos := _, after := _, guard := _ }) rfl (fun K hK => ?_) AllReadyH.nil
        have st19 := HG18_8.out.st ko
        go_simp
        clear st19
        have HG19_k := Lib.hid (HG18_k.out.row_other (c := y11.heap.size) (by have := HX0.out; omega) (kc ko))
        have HG19_7 := Lib.hid (HG18_7.out.row_other (c := y11.heap.size) (by omega) (kc ko))
        have HG19_8 := Lib.hid (HG18_8.out.row ko)
        refine hK.out _ _ ((below_row ((below_row (hb17) hle7 (kc kw))) hle8 (kc ko))) (fun hHeld => ?_)
        clear hK K
        try simp only [Act.put, List.setIfInBounds_toArray, List.set_cons_zero, List.set_cons_succ]
        refine wpAnyH_done (by kernel_rfl) ?_ _
        exact HC.out y1.heap.size y11.heap.size _ HG19_k.out HG19_7.out HG19_8.out (HBX.out _ (below_row ((below_row (hb17) hle7 (kc kw))) hle8 (kc ko)))
    · skip
      go_simp
      obtain ⟨y20, hy20⟩ : ∃ y, y = y1.alloc (.cells (kc kz) 25) := ⟨_, rfl⟩
      have hb20 : Below X.heap.size X y20 := by rw [hy20]; exact made_bel (hb1) _
      have hq : Below y1.heap.size y1 y20 := by rw [hy20]; exact one_below _ _
      have HG20_k := Lib.hid (HG1_k.out.below (hq) HG1_k.out.lt)
      have HG20_8 : Hid (BmAt y20 y1.heap.size kz) := by show BmAt _ _ _; rw [hy20]; exact BmAt.one _ _
      have hle8 : X.heap.size ≤ y1.heap.size := (hb1).size
      rw [← hy20]
      clear hy20 hq
      refine hK.out _ _ (hb20) (fun hHeld => ?_)
      clear hK K
      try simp only [Act.put, List.setIfInBounds_toArray, List.set_cons_zero, List.set_cons_succ]
      refine wpAnyH_ready (rs := [5, 6]) (by kernel_rfl) (by simp) ?_
      refine AllReadyH.cons (o := { dst := some 14, op := .call _, type := _, pos := _, after := _, guard := _ }) rfl (fun K hK => ?_) (AllReadyH.cons (o := { dst := some 7, op := .alloc _, type := _, pos := _, after := _, guard := _ }) rfl (fun K hK => ?_) (AllReadyH.nil))
      · skip
        go_simp
        refine (HWO.out _).mono ?_
        rintro e y21 ⟨rfl, hb⟩
        have hb21 : Below X.heap.size X y21 := keeps (hb20) hb
        have HG21_k := Lib.hid (HG20_k.out.below (hb) HG20_k.out.lt)
        have HG21_8 := Lib.hid (HG20_8.out.below (hb) HG20_8.out.lt)
        clear hb
        go_wp2_with fail
        refine hK.out _ _ (hb21) (fun hHeld => ?_)
        clear hK K
        try simp only [Act.put, List.setIfInBounds_toArray, List.set_cons_zero, List.set_cons_succ]
        refine wpAnyH_ready (rs := [6]) (by kernel_rfl) (by simp) ?_
        refine AllReadyH.cons (o := { dst := some 7, op := .alloc _, type := _, pos := _, after := _, guard := _ }) rfl (fun K hK => ?_) AllReadyH.nil
        go_simp
        obtain ⟨y22, hy22⟩ : ∃ y, y = y21.alloc (.cells (kc kz) 25) := ⟨_, rfl⟩
        have hb22 : Below X.heap.size X y22 := by rw [hy22]; exact made_bel (hb21) _
        have hq : Below y21.heap.size y21 y22 := by rw [hy22]; exact one_below _ _
        have hne : y1.heap.size ≠ y21.heap.size := by have := HG21_8.out.lt; omega
        have HG22_k := Lib.hid (HG21_k.out.below (hq) HG21_k.out.lt)
        have HG22_8 := Lib.hid (HG21_8.out.below (hq) HG21_8.out.lt)
        have HG22_7 : Hid (BmAt y22 y21.heap.size kz) := by show BmAt _ _ _; rw [hy22]; exact BmAt.one _ _
        have hle7 : X.heap.size ≤ y21.heap.size := (hb21).size
        rw [← hy22]
        clear hy22 hq
        refine hK.out _ _ (hb22) (fun hHeld => ?_)
        clear hK K
        try simp only [Act.put, List.setIfInBounds_toArray, List.set_cons_zero, List.set_cons_succ]
        refine wpAnyH_ready (rs := [8]) (by kernel_rfl) (by simp) ?_
        refine AllReadyH.cons (o := { dst := none, op := .store _ (.tmp 7) (.tmp 11), type := _, pos := _, after := _, guard := _ }) rfl (fun K hK => ?_) AllReadyH.nil
        have st23 := HG22_7.out.st kw
        go_simp
        clear st23
        have HG23_k := Lib.hid (HG22_k.out.row_other (c := y21.heap.size) (by have := HX0.out; omega) (kc kw))
        have HG23_8 := Lib.hid (HG22_8.out.row_other (c := y21.heap.size) (by omega) (kc kw))
        have HG23_7 := Lib.hid (HG22_7.out.row kw)
        refine hK.out _ _ ((below_row (hb22) hle7 (kc kw))) (fun hHeld => ?_)
        clear hK K
        try simp only [Act.put, List.setIfInBounds_toArray, List.set_cons_zero, List.set_cons_succ]
        refine wpAnyH_ready (rs := [9]) (by kernel_rfl) (by simp) ?_
        refine AllReadyH.cons (o := { dst := none, op := .store _ (.tmp 8) (.tmp 14), type := _, pos := _, after := _, guard := _ }) rfl (fun K hK => ?_) AllReadyH.nil
        have st24 := HG23_8.out.st ko
        go_simp
        clear st24
        have HG24_k := Lib.hid (HG23_k.out.row_other (c := y1.heap.size) (by have := HX0.out; omega) (kc ko))
        have HG24_8 := Lib.hid (HG23_8.out.row ko)
        have HG24_7 := Lib.hid (HG23_7.out.row_other (c := y1.heap.size) (by omega) (kc ko))
        refine hK.out _ _ ((below_row ((below_row (hb22) hle7 (kc kw))) hle8 (kc ko))) (fun hHeld => ?_)
        clear hK K
        try simp only [Act.put, List.setIfInBounds_toArray, List.set_cons_zero, List.set_cons_succ]
        refine wpAnyH_done (by kernel_rfl) ?_ _
        exact HC.out y21.heap.size y1.heap.size _ HG24_k.out HG24_7.out HG24_8.out (HBX.out _ (below_row ((below_row (hb22) hle7 (kc kw))) hle8 (kc ko)))
      · skip
        go_simp
        obtain ⟨y25, hy25⟩ : ∃ y, y = y20.alloc (.cells (kc kz) 25) := ⟨_, rfl⟩
        have hb25 : Below X.heap.size X y25 := by rw [hy25]; exact made_bel (hb20) _
        have hq : Below y20.heap.size y20 y25 := by rw [hy25]; exact one_below _ _
        have hne : y1.heap.size ≠ y20.heap.size := by have := HG20_8.out.lt; omega
        have HG25_k := Lib.hid (HG20_k.out.below (hq) HG20_k.out.lt)
        have HG25_8 := Lib.hid (HG20_8.out.below (hq) HG20_8.out.lt)
        have HG25_7 : Hid (BmAt y25 y20.heap.size kz) := by show BmAt _ _ _; rw [hy25]; exact BmAt.one _ _
        have hle7 : X.heap.size ≤ y20.heap.size := (hb20).size
        rw [← hy25]
        clear hy25 hq
        refine hK.out _ _ (hb25) (fun hHeld => ?_)
        clear hK K
        try simp only [Act.put, List.setIfInBounds_toArray, List.set_cons_zero, List.set_cons_succ]
        refine wpAnyH_ready (rs := [5]) (by kernel_rfl) (by simp) ?_
        refine AllReadyH.cons (o := { dst := some 14, op := .call _, type := _, pos := _, after := _, guard := _ }) rfl (fun K hK => ?_) AllReadyH.nil
        go_simp
        refine (HWO.out _).mono ?_
        rintro e y26 ⟨rfl, hb⟩
        have hb26 : Below X.heap.size X y26 := keeps (hb25) hb
        have HG26_k := Lib.hid (HG25_k.out.below (hb) HG25_k.out.lt)
        have HG26_8 := Lib.hid (HG25_8.out.below (hb) HG25_8.out.lt)
        have HG26_7 := Lib.hid (HG25_7.out.below (hb) HG25_7.out.lt)
        clear hb
        go_wp2_with fail
        refine hK.out _ _ (hb26) (fun hHeld => ?_)
        clear hK K
        try simp only [Act.put, List.setIfInBounds_toArray, List.set_cons_zero, List.set_cons_succ]
        refine wpAnyH_ready (rs := [8]) (by kernel_rfl) (by simp) ?_
        refine AllReadyH.cons (o := { dst := none, op := .store _ (.tmp 7) (.tmp 11), type := _, pos := _, after := _, guard := _ }) rfl (fun K hK => ?_) AllReadyH.nil
        have st27 := HG26_7.out.st kw
        go_simp
        clear st27
        have HG27_k := Lib.hid (HG26_k.out.row_other (c := y20.heap.size) (by have := HX0.out; omega) (kc kw))
        have HG27_8 := Lib.hid (HG26_8.out.row_other (c := y20.heap.size) (by omega) (kc kw))
        have HG27_7 := Lib.hid (HG26_7.out.row kw)
        refine hK.out _ _ ((below_row (hb26) hle7 (kc kw))) (fun hHeld => ?_)
        clear hK K
        try simp only [Act.put, List.setIfInBounds_toArray, List.set_cons_zero, List.set_cons_succ]
        refine wpAnyH_ready (rs := [9]) (by kernel_rfl) (by simp) ?_
        refine AllReadyH.cons (o := { dst := none, op := .store _ (.tmp 8) (.tmp 14), type := _, pos := _, after := _, guard := _ }) rfl (fun K hK => ?_) AllReadyH.nil
        have st28 := HG27_8.out.st ko
        go_simp
        clear st28
        have HG28_k := Lib.hid (HG27_k.out.row_other (c := y1.heap.size) (by have := HX0.out; omega) (kc ko))
        have HG28_8 := Lib.hid (HG27_8.out.row ko)
        have HG28_7 := Lib.hid (HG27_7.out.row_other (c := y1.heap.size) (by omega) (kc ko))
        refine hK.out _ _ ((below_row ((below_row (hb26) hle7 (kc kw))) hle8 (kc ko))) (fun hHeld => ?_)
        clear hK K
        try simp only [Act.put, List.setIfInBounds_toArray, List.set_cons_zero, List.set_cons_succ]
        refine wpAnyH_done (by kernel_rfl) ?_ _
        exact HC.out y20.heap.size y1.heap.size _ HG28_k.out HG28_7.out HG28_8.out (HBX.out _ (below_row ((below_row (hb26) hle7 (kc kw))) hle8 (kc ko)))
  · skip
    go_simp
    obtain ⟨y29, hy29⟩ : ∃ y, y = y0.alloc (.cells (kc kz) 25) := ⟨_, rfl⟩
    have hb29 : Below X.heap.size X y29 := by rw [hy29]; exact made_bel (hb0) _
    have hq : Below y0.heap.size y0 y29 := by rw [hy29]; exact one_below _ _
    have HG29_k := Lib.hid (HG0_k.out.below (hq) HG0_k.out.lt)
    have HG29_7 : Hid (BmAt y29 y0.heap.size kz) := by show BmAt _ _ _; rw [hy29]; exact BmAt.one _ _
    have hle7 : X.heap.size ≤ y0.heap.size := (hb0).size
    rw [← hy29]
    clear hy29 hq
    refine hK.out _ _ (hb29) (fun hHeld => ?_)
    clear hK K
    try simp only [Act.put, List.setIfInBounds_toArray, List.set_cons_zero, List.set_cons_succ]
    refine wpAnyH_ready (rs := [2, 7]) (by kernel_rfl) (by simp) ?_
    refine AllReadyH.cons (o := { dst := some 11, op := .call _, type := _, pos := _, after := _, guard := _ }) rfl (fun K hK => ?_) (AllReadyH.cons (o := { dst := some 8, op := .alloc _, type := _, pos := _, after := _, guard := _ }) rfl (fun K hK => ?_) (AllReadyH.nil))
    · skip
      go_simp
      refine (HWI.out _).mono ?_
      rintro e y30 ⟨rfl, hb⟩
      have hb30 : Below X.heap.size X y30 := keeps (hb29) hb
      have HG30_k := Lib.hid (HG29_k.out.below (hb) HG29_k.out.lt)
      have HG30_7 := Lib.hid (HG29_7.out.below (hb) HG29_7.out.lt)
      clear hb
      go_wp2_with fail
      refine hK.out _ _ (hb30) (fun hHeld => ?_)
      clear hK K
      try simp only [Act.put, List.setIfInBounds_toArray, List.set_cons_zero, List.set_cons_succ]
      refine wpAnyH_ready (rs := [5, 7]) (by kernel_rfl) (by simp) ?_
      refine AllReadyH.cons (o := { dst := some 14, op := .call _, type := _, pos := _, after := _, guard := _ }) rfl (fun K hK => ?_) (AllReadyH.cons (o := { dst := some 8, op := .alloc _, type := _, pos := _, after := _, guard := _ }) rfl (fun K hK => ?_) (AllReadyH.nil))
      · skip
        go_simp
        refine (HWO.out _).mono ?_
        rintro e y31 ⟨rfl, hb⟩
        have hb31 : Below X.heap.size X y31 := keeps (hb30) hb
        have HG31_k := Lib.hid (HG30_k.out.below (hb) HG30_k.out.lt)
        have HG31_7 := Lib.hid (HG30_7.out.below (hb) HG30_7.out.lt)
        clear hb
        go_wp2_with fail
        refine hK.out _ _ (hb31) (fun hHeld => ?_)
        clear hK K
        try simp only [Act.put, List.setIfInBounds_toArray, List.set_cons_zero, List.set_cons_succ]
        refine wpAnyH_ready (rs := [7]) (by kernel_rfl) (by simp) ?_
        refine AllReadyH.cons (o := { dst := some 8, op := .alloc _, type := _, pos := _, after := _, guard := _ }) rfl (fun K hK => ?_) AllReadyH.nil
        go_simp
        obtain ⟨y32, hy32⟩ : ∃ y, y = y31.alloc (.cells (kc kz) 25) := ⟨_, rfl⟩
        have hb32 : Below X.heap.size X y32 := by rw [hy32]; exact made_bel (hb31) _
        have hq : Below y31.heap.size y31 y32 := by rw [hy32]; exact one_below _ _
        have hne : y0.heap.size ≠ y31.heap.size := by have := HG31_7.out.lt; omega
        have HG32_k := Lib.hid (HG31_k.out.below (hq) HG31_k.out.lt)
        have HG32_7 := Lib.hid (HG31_7.out.below (hq) HG31_7.out.lt)
        have HG32_8 : Hid (BmAt y32 y31.heap.size kz) := by show BmAt _ _ _; rw [hy32]; exact BmAt.one _ _
        have hle8 : X.heap.size ≤ y31.heap.size := (hb31).size
        rw [← hy32]
        clear hy32 hq
        refine hK.out _ _ (hb32) (fun hHeld => ?_)
        clear hK K
        try simp only [Act.put, List.setIfInBounds_toArray, List.set_cons_zero, List.set_cons_succ]
        refine wpAnyH_ready (rs := [8]) (by kernel_rfl) (by simp) ?_
        refine AllReadyH.cons (o := { dst := none, op := .store _ (.tmp 7) (.tmp 11), type := _, pos := _, after := _, guard := _ }) rfl (fun K hK => ?_) AllReadyH.nil
        have st33 := HG32_7.out.st kw
        go_simp
        clear st33
        have HG33_k := Lib.hid (HG32_k.out.row_other (c := y0.heap.size) (by have := HX0.out; omega) (kc kw))
        have HG33_7 := Lib.hid (HG32_7.out.row kw)
        have HG33_8 := Lib.hid (HG32_8.out.row_other (c := y0.heap.size) (by omega) (kc kw))
        refine hK.out _ _ ((below_row (hb32) hle7 (kc kw))) (fun hHeld => ?_)
        clear hK K
        try simp only [Act.put, List.setIfInBounds_toArray, List.set_cons_zero, List.set_cons_succ]
        refine wpAnyH_ready (rs := [9]) (by kernel_rfl) (by simp) ?_
        refine AllReadyH.cons (o := { dst := none, op := .store _ (.tmp 8) (.tmp 14), type := _, pos := _, after := _, guard := _ }) rfl (fun K hK => ?_) AllReadyH.nil
        have st34 := HG33_8.out.st ko
        go_simp
        clear st34
        have HG34_k := Lib.hid (HG33_k.out.row_other (c := y31.heap.size) (by have := HX0.out; omega) (kc ko))
        have HG34_7 := Lib.hid (HG33_7.out.row_other (c := y31.heap.size) (by omega) (kc ko))
        have HG34_8 := Lib.hid (HG33_8.out.row ko)
        refine hK.out _ _ ((below_row ((below_row (hb32) hle7 (kc kw))) hle8 (kc ko))) (fun hHeld => ?_)
        clear hK K
        try simp only [Act.put, List.setIfInBounds_toArray, List.set_cons_zero, List.set_cons_succ]
        refine wpAnyH_done (by kernel_rfl) ?_ _
        exact HC.out y0.heap.size y31.heap.size _ HG34_k.out HG34_7.out HG34_8.out (HBX.out _ (below_row ((below_row (hb32) hle7 (kc kw))) hle8 (kc ko)))
      · skip
        go_simp
        obtain ⟨y35, hy35⟩ : ∃ y, y = y30.alloc (.cells (kc kz) 25) := ⟨_, rfl⟩
        have hb35 : Below X.heap.size X y35 := by rw [hy35]; exact made_bel (hb30) _
        have hq : Below y30.heap.size y30 y35 := by rw [hy35]; exact one_below _ _
        have hne : y0.heap.size ≠ y30.heap.size := by have := HG30_7.out.lt; omega
        have HG35_k := Lib.hid (HG30_k.out.below (hq) HG30_k.out.lt)
        have HG35_7 := Lib.hid (HG30_7.out.below (hq) HG30_7.out.lt)
        have HG35_8 : Hid (BmAt y35 y30.heap.size kz) := by show BmAt _ _ _; rw [hy35]; exact BmAt.one _ _
        have hle8 : X.heap.size ≤ y30.heap.size := (hb30).size
        rw [← hy35]
        clear hy35 hq
        refine hK.out _ _ (hb35) (fun hHeld => ?_)
        clear hK K
        try simp only [Act.put, List.setIfInBounds_toArray, List.set_cons_zero, List.set_cons_succ]
        refine wpAnyH_ready (rs := [5]) (by kernel_rfl) (by simp) ?_
        refine AllReadyH.cons (o := { dst := some 14, op := .call _, type := _, pos := _, after := _, guard := _ }) rfl (fun K hK => ?_) AllReadyH.nil
        go_simp
        refine (HWO.out _).mono ?_
        rintro e y36 ⟨rfl, hb⟩
        have hb36 : Below X.heap.size X y36 := keeps (hb35) hb
        have HG36_k := Lib.hid (HG35_k.out.below (hb) HG35_k.out.lt)
        have HG36_7 := Lib.hid (HG35_7.out.below (hb) HG35_7.out.lt)
        have HG36_8 := Lib.hid (HG35_8.out.below (hb) HG35_8.out.lt)
        clear hb
        go_wp2_with fail
        refine hK.out _ _ (hb36) (fun hHeld => ?_)
        clear hK K
        try simp only [Act.put, List.setIfInBounds_toArray, List.set_cons_zero, List.set_cons_succ]
        refine wpAnyH_ready (rs := [8]) (by kernel_rfl) (by simp) ?_
        refine AllReadyH.cons (o := { dst := none, op := .store _ (.tmp 7) (.tmp 11), type := _, pos := _, after := _, guard := _ }) rfl (fun K hK => ?_) AllReadyH.nil
        have st37 := HG36_7.out.st kw
        go_simp
        clear st37
        have HG37_k := Lib.hid (HG36_k.out.row_other (c := y0.heap.size) (by have := HX0.out; omega) (kc kw))
        have HG37_7 := Lib.hid (HG36_7.out.row kw)
        have HG37_8 := Lib.hid (HG36_8.out.row_other (c := y0.heap.size) (by omega) (kc kw))
        refine hK.out _ _ ((below_row (hb36) hle7 (kc kw))) (fun hHeld => ?_)
        clear hK K
        try simp only [Act.put, List.setIfInBounds_toArray, List.set_cons_zero, List.set_cons_succ]
        refine wpAnyH_ready (rs := [9]) (by kernel_rfl) (by simp) ?_
        refine AllReadyH.cons (o := { dst := none, op := .store _ (.tmp 8) (.tmp 14), type := _, pos := _, after := _, guard := _ }) rfl (fun K hK => ?_) AllReadyH.nil
        have st38 := HG37_8.out.st ko
        go_simp
        clear st38
        have HG38_k := Lib.hid (HG37_k.out.row_other (c := y30.heap.size) (by have := HX0.out; omega) (kc ko))
        have HG38_7 := Lib.hid (HG37_7.out.row_other (c := y30.heap.size) (by omega) (kc ko))
        have HG38_8 := Lib.hid (HG37_8.out.row ko)
        refine hK.out _ _ ((below_row ((below_row (hb36) hle7 (kc kw))) hle8 (kc ko))) (fun hHeld => ?_)
        clear hK K
        try simp only [Act.put, List.setIfInBounds_toArray, List.set_cons_zero, List.set_cons_succ]
        refine wpAnyH_done (by kernel_rfl) ?_ _
        exact HC.out y0.heap.size y30.heap.size _ HG38_k.out HG38_7.out HG38_8.out (HBX.out _ (below_row ((below_row (hb36) hle7 (kc kw))) hle8 (kc ko)))
    · skip
      go_simp
      obtain ⟨y39, hy39⟩ : ∃ y, y = y29.alloc (.cells (kc kz) 25) := ⟨_, rfl⟩
      have hb39 : Below X.heap.size X y39 := by rw [hy39]; exact made_bel (hb29) _
      have hq : Below y29.heap.size y29 y39 := by rw [hy39]; exact one_below _ _
      have hne : y0.heap.size ≠ y29.heap.size := by have := HG29_7.out.lt; omega
      have HG39_k := Lib.hid (HG29_k.out.below (hq) HG29_k.out.lt)
      have HG39_7 := Lib.hid (HG29_7.out.below (hq) HG29_7.out.lt)
      have HG39_8 : Hid (BmAt y39 y29.heap.size kz) := by show BmAt _ _ _; rw [hy39]; exact BmAt.one _ _
      have hle8 : X.heap.size ≤ y29.heap.size := (hb29).size
      rw [← hy39]
      clear hy39 hq
      refine hK.out _ _ (hb39) (fun hHeld => ?_)
      clear hK K
      try simp only [Act.put, List.setIfInBounds_toArray, List.set_cons_zero, List.set_cons_succ]
      refine wpAnyH_ready (rs := [2]) (by kernel_rfl) (by simp) ?_
      refine AllReadyH.cons (o := { dst := some 11, op := .call _, type := _, pos := _, after := _, guard := _ }) rfl (fun K hK => ?_) AllReadyH.nil
      go_simp
      refine (HWI.out _).mono ?_
      rintro e y40 ⟨rfl, hb⟩
      have hb40 : Below X.heap.size X y40 := keeps (hb39) hb
      have HG40_k := Lib.hid (HG39_k.out.below (hb) HG39_k.out.lt)
      have HG40_7 := Lib.hid (HG39_7.out.below (hb) HG39_7.out.lt)
      have HG40_8 := Lib.hid (HG39_8.out.below (hb) HG39_8.out.lt)
      clear hb
      go_wp2_with fail
      refine hK.out _ _ (hb40) (fun hHeld => ?_)
      clear hK K
      try simp only [Act.put, List.setIfInBounds_toArray, List.set_cons_zero, List.set_cons_succ]
      refine wpAnyH_ready (rs := [5]) (by kernel_rfl) (by simp) ?_
      refine AllReadyH.cons (o := { dst := some 14, op := .call _, type := _, pos := _, after := _, guard := _ }) rfl (fun K hK => ?_) AllReadyH.nil
      go_simp
      refine (HWO.out _).mono ?_
      rintro e y41 ⟨rfl, hb⟩
      have hb41 : Below X.heap.size X y41 := keeps (hb40) hb
      have HG41_k := Lib.hid (HG40_k.out.below (hb) HG40_k.out.lt)
      have HG41_7 := Lib.hid (HG40_7.out.below (hb) HG40_7.out.lt)
      have HG41_8 := Lib.hid (HG40_8.out.below (hb) HG40_8.out.lt)
      clear hb
      go_wp2_with fail
      refine hK.out _ _ (hb41) (fun hHeld => ?_)
      clear hK K
      try simp only [Act.put, List.setIfInBounds_toArray, List.set_cons_zero, List.set_cons_succ]
      refine wpAnyH_ready (rs := [8]) (by kernel_rfl) (by simp) ?_
      refine AllReadyH.cons (o := { dst := none, op := .store _ (.tmp 7) (.tmp 11), type := _, pos := _, after := _, guard := _ }) rfl (fun K hK => ?_) AllReadyH.nil
      have st42 := HG41_7.out.st kw
      go_simp
      clear st42
      have HG42_k := Lib.hid (HG41_k.out.row_other (c := y0.heap.size) (by have := HX0.out; omega) (kc kw))
      have HG42_7 := Lib.hid (HG41_7.out.row kw)
      have HG42_8 := Lib.hid (HG41_8.out.row_other (c := y0.heap.size) (by omega) (kc kw))
      refine hK.out _ _ ((below_row (hb41) hle7 (kc kw))) (fun hHeld => ?_)
      clear hK K
      try simp only [Act.put, List.setIfInBounds_toArray, List.set_cons_zero, List.set_cons_succ]
      refine wpAnyH_ready (rs := [9]) (by kernel_rfl) (by simp) ?_
      refine AllReadyH.cons (o := { dst := none, op := .store _ (.tmp 8) (.tmp 14), type := _, pos := _, after := _, guard := _ }) rfl (fun K hK => ?_) AllReadyH.nil
      have st43 := HG42_8.out.st ko
      go_simp
      clear st43
      have HG43_k := Lib.hid (HG42_k.out.row_other (c := y29.heap.size) (by have := HX0.out; omega) (kc ko))
      have HG43_7 := Lib.hid (HG42_7.out.row_other (c := y29.heap.size) (by omega) (kc ko))
      have HG43_8 := Lib.hid (HG42_8.out.row ko)
      refine hK.out _ _ ((below_row ((below_row (hb41) hle7 (kc kw))) hle8 (kc ko))) (fun hHeld => ?_)
      clear hK K
      try simp only [Act.put, List.setIfInBounds_toArray, List.set_cons_zero, List.set_cons_succ]
      refine wpAnyH_done (by kernel_rfl) ?_ _
      exact HC.out y0.heap.size y29.heap.size _ HG43_k.out HG43_7.out HG43_8.out (HBX.out _ (below_row ((below_row (hb41) hle7 (kc kw))) hle8 (kc ko)))
  · skip
    go_simp
    obtain ⟨y44, hy44⟩ : ∃ y, y = y0.alloc (.cells (kc kz) 25) := ⟨_, rfl⟩
    have hb44 : Below X.heap.size X y44 := by rw [hy44]; exact made_bel (hb0) _
    have hq : Below y0.heap.size y0 y44 := by rw [hy44]; exact one_below _ _
    have HG44_k := Lib.hid (HG0_k.out.below (hq) HG0_k.out.lt)
    have HG44_8 : Hid (BmAt y44 y0.heap.size kz) := by show BmAt _ _ _; rw [hy44]; exact BmAt.one _ _
    have hle8 : X.heap.size ≤ y0.heap.size := (hb0).size
    rw [← hy44]
    clear hy44 hq
    refine hK.out _ _ (hb44) (fun hHeld => ?_)
    clear hK K
    try simp only [Act.put, List.setIfInBounds_toArray, List.set_cons_zero, List.set_cons_succ]
    refine wpAnyH_ready (rs := [2, 6]) (by kernel_rfl) (by simp) ?_
    refine AllReadyH.cons (o := { dst := some 11, op := .call _, type := _, pos := _, after := _, guard := _ }) rfl (fun K hK => ?_) (AllReadyH.cons (o := { dst := some 7, op := .alloc _, type := _, pos := _, after := _, guard := _ }) rfl (fun K hK => ?_) (AllReadyH.nil))
    · skip
      go_simp
      refine (HWI.out _).mono ?_
      rintro e y45 ⟨rfl, hb⟩
      have hb45 : Below X.heap.size X y45 := keeps (hb44) hb
      have HG45_k := Lib.hid (HG44_k.out.below (hb) HG44_k.out.lt)
      have HG45_8 := Lib.hid (HG44_8.out.below (hb) HG44_8.out.lt)
      clear hb
      go_wp2_with fail
      refine hK.out _ _ (hb45) (fun hHeld => ?_)
      clear hK K
      try simp only [Act.put, List.setIfInBounds_toArray, List.set_cons_zero, List.set_cons_succ]
      refine wpAnyH_ready (rs := [5, 6]) (by kernel_rfl) (by simp) ?_
      refine AllReadyH.cons (o := { dst := some 14, op := .call _, type := _, pos := _, after := _, guard := _ }) rfl (fun K hK => ?_) (AllReadyH.cons (o := { dst := some 7, op := .alloc _, type := _, pos := _, after := _, guard := _ }) rfl (fun K hK => ?_) (AllReadyH.nil))
      · skip
        go_simp
        refine (HWO.out _).mono ?_
        rintro e y46 ⟨rfl, hb⟩
        have hb46 : Below X.heap.size X y46 := keeps (hb45) hb
        have HG46_k := Lib.hid (HG45_k.out.below (hb) HG45_k.out.lt)
        have HG46_8 := Lib.hid (HG45_8.out.below (hb) HG45_8.out.lt)
        clear hb
        go_wp2_with fail
        refine hK.out _ _ (hb46) (fun hHeld => ?_)
        clear hK K
        try simp only [Act.put, List.setIfInBounds_toArray, List.set_cons_zero, List.set_cons_succ]
        refine wpAnyH_ready (rs := [6]) (by kernel_rfl) (by simp) ?_
        refine AllReadyH.cons (o := { dst := some 7, op := .alloc _, type := _, pos := _, after := _, guard := _ }) rfl (fun K hK => ?_) AllReadyH.nil
        go_simp
        obtain ⟨y47, hy47⟩ : ∃ y, y = y46.alloc (.cells (kc kz) 25) := ⟨_, rfl⟩
        have hb47 : Below X.heap.size X y47 := by rw [hy47]; exact made_bel (hb46) _
        have hq : Below y46.heap.size y46 y47 := by rw [hy47]; exact one_below _ _
        have hne : y0.heap.size ≠ y46.heap.size := by have := HG46_8.out.lt; omega
        have HG47_k := Lib.hid (HG46_k.out.below (hq) HG46_k.out.lt)
        have HG47_8 := Lib.hid (HG46_8.out.below (hq) HG46_8.out.lt)
        have HG47_7 : Hid (BmAt y47 y46.heap.size kz) := by show BmAt _ _ _; rw [hy47]; exact BmAt.one _ _
        have hle7 : X.heap.size ≤ y46.heap.size := (hb46).size
        rw [← hy47]
        clear hy47 hq
        refine hK.out _ _ (hb47) (fun hHeld => ?_)
        clear hK K
        try simp only [Act.put, List.setIfInBounds_toArray, List.set_cons_zero, List.set_cons_succ]
        refine wpAnyH_ready (rs := [8]) (by kernel_rfl) (by simp) ?_
        refine AllReadyH.cons (o := { dst := none, op := .store _ (.tmp 7) (.tmp 11), type := _, pos := _, after := _, guard := _ }) rfl (fun K hK => ?_) AllReadyH.nil
        have st48 := HG47_7.out.st kw
        go_simp
        clear st48
        have HG48_k := Lib.hid (HG47_k.out.row_other (c := y46.heap.size) (by have := HX0.out; omega) (kc kw))
        have HG48_8 := Lib.hid (HG47_8.out.row_other (c := y46.heap.size) (by omega) (kc kw))
        have HG48_7 := Lib.hid (HG47_7.out.row kw)
        refine hK.out _ _ ((below_row (hb47) hle7 (kc kw))) (fun hHeld => ?_)
        clear hK K
        try simp only [Act.put, List.setIfInBounds_toArray, List.set_cons_zero, List.set_cons_succ]
        refine wpAnyH_ready (rs := [9]) (by kernel_rfl) (by simp) ?_
        refine AllReadyH.cons (o := { dst := none, op := .store _ (.tmp 8) (.tmp 14), type := _, pos := _, after := _, guard := _ }) rfl (fun K hK => ?_) AllReadyH.nil
        have st49 := HG48_8.out.st ko
        go_simp
        clear st49
        have HG49_k := Lib.hid (HG48_k.out.row_other (c := y0.heap.size) (by have := HX0.out; omega) (kc ko))
        have HG49_8 := Lib.hid (HG48_8.out.row ko)
        have HG49_7 := Lib.hid (HG48_7.out.row_other (c := y0.heap.size) (by omega) (kc ko))
        refine hK.out _ _ ((below_row ((below_row (hb47) hle7 (kc kw))) hle8 (kc ko))) (fun hHeld => ?_)
        clear hK K
        try simp only [Act.put, List.setIfInBounds_toArray, List.set_cons_zero, List.set_cons_succ]
        refine wpAnyH_done (by kernel_rfl) ?_ _
        exact HC.out y46.heap.size y0.heap.size _ HG49_k.out HG49_7.out HG49_8.out (HBX.out _ (below_row ((below_row (hb47) hle7 (kc kw))) hle8 (kc ko)))
      · skip
        go_simp
        obtain ⟨y50, hy50⟩ : ∃ y, y = y45.alloc (.cells (kc kz) 25) := ⟨_, rfl⟩
        have hb50 : Below X.heap.size X y50 := by rw [hy50]; exact made_bel (hb45) _
        have hq : Below y45.heap.size y45 y50 := by rw [hy50]; exact one_below _ _
        have hne : y0.heap.size ≠ y45.heap.size := by have := HG45_8.out.lt; omega
        have HG50_k := Lib.hid (HG45_k.out.below (hq) HG45_k.out.lt)
        have HG50_8 := Lib.hid (HG45_8.out.below (hq) HG45_8.out.lt)
        have HG50_7 : Hid (BmAt y50 y45.heap.size kz) := by show BmAt _ _ _; rw [hy50]; exact BmAt.one _ _
        have hle7 : X.heap.size ≤ y45.heap.size := (hb45).size
        rw [← hy50]
        clear hy50 hq
        refine hK.out _ _ (hb50) (fun hHeld => ?_)
        clear hK K
        try simp only [Act.put, List.setIfInBounds_toArray, List.set_cons_zero, List.set_cons_succ]
        refine wpAnyH_ready (rs := [5]) (by kernel_rfl) (by simp) ?_
        refine AllReadyH.cons (o := { dst := some 14, op := .call _, type := _, pos := _, after := _, guard := _ }) rfl (fun K hK => ?_) AllReadyH.nil
        go_simp
        refine (HWO.out _).mono ?_
        rintro e y51 ⟨rfl, hb⟩
        have hb51 : Below X.heap.size X y51 := keeps (hb50) hb
        have HG51_k := Lib.hid (HG50_k.out.below (hb) HG50_k.out.lt)
        have HG51_8 := Lib.hid (HG50_8.out.below (hb) HG50_8.out.lt)
        have HG51_7 := Lib.hid (HG50_7.out.below (hb) HG50_7.out.lt)
        clear hb
        go_wp2_with fail
        refine hK.out _ _ (hb51) (fun hHeld => ?_)
        clear hK K
        try simp only [Act.put, List.setIfInBounds_toArray, List.set_cons_zero, List.set_cons_succ]
        refine wpAnyH_ready (rs := [8]) (by kernel_rfl) (by simp) ?_
        refine AllReadyH.cons (o := { dst := none, op := .store _ (.tmp 7) (.tmp 11), type := _, pos := _, after := _, guard := _ }) rfl (fun K hK => ?_) AllReadyH.nil
        have st52 := HG51_7.out.st kw
        go_simp
        clear st52
        have HG52_k := Lib.hid (HG51_k.out.row_other (c := y45.heap.size) (by have := HX0.out; omega) (kc kw))
        have HG52_8 := Lib.hid (HG51_8.out.row_other (c := y45.heap.size) (by omega) (kc kw))
        have HG52_7 := Lib.hid (HG51_7.out.row kw)
        refine hK.out _ _ ((below_row (hb51) hle7 (kc kw))) (fun hHeld => ?_)
        clear hK K
        try simp only [Act.put, List.setIfInBounds_toArray, List.set_cons_zero, List.set_cons_succ]
        refine wpAnyH_ready (rs := [9]) (by kernel_rfl) (by simp) ?_
        refine AllReadyH.cons (o := { dst := none, op := .store _ (.tmp 8) (.tmp 14), type := _, pos := _, after := _, guard := _ }) rfl (fun K hK => ?_) AllReadyH.nil
        have st53 := HG52_8.out.st ko
        go_simp
        clear st53
        have HG53_k := Lib.hid (HG52_k.out.row_other (c := y0.heap.size) (by have := HX0.out; omega) (kc ko))
        have HG53_8 := Lib.hid (HG52_8.out.row ko)
        have HG53_7 := Lib.hid (HG52_7.out.row_other (c := y0.heap.size) (by omega) (kc ko))
        refine hK.out _ _ ((below_row ((below_row (hb51) hle7 (kc kw))) hle8 (kc ko))) (fun hHeld => ?_)
        clear hK K
        try simp only [Act.put, List.setIfInBounds_toArray, List.set_cons_zero, List.set_cons_succ]
        refine wpAnyH_done (by kernel_rfl) ?_ _
        exact HC.out y45.heap.size y0.heap.size _ HG53_k.out HG53_7.out HG53_8.out (HBX.out _ (below_row ((below_row (hb51) hle7 (kc kw))) hle8 (kc ko)))
    · skip
      go_simp
      obtain ⟨y54, hy54⟩ : ∃ y, y = y44.alloc (.cells (kc kz) 25) := ⟨_, rfl⟩
      have hb54 : Below X.heap.size X y54 := by rw [hy54]; exact made_bel (hb44) _
      have hq : Below y44.heap.size y44 y54 := by rw [hy54]; exact one_below _ _
      have hne : y0.heap.size ≠ y44.heap.size := by have := HG44_8.out.lt; omega
      have HG54_k := Lib.hid (HG44_k.out.below (hq) HG44_k.out.lt)
      have HG54_8 := Lib.hid (HG44_8.out.below (hq) HG44_8.out.lt)
      have HG54_7 : Hid (BmAt y54 y44.heap.size kz) := by show BmAt _ _ _; rw [hy54]; exact BmAt.one _ _
      have hle7 : X.heap.size ≤ y44.heap.size := (hb44).size
      rw [← hy54]
      clear hy54 hq
      refine hK.out _ _ (hb54) (fun hHeld => ?_)
      clear hK K
      try simp only [Act.put, List.setIfInBounds_toArray, List.set_cons_zero, List.set_cons_succ]
      refine wpAnyH_ready (rs := [2]) (by kernel_rfl) (by simp) ?_
      refine AllReadyH.cons (o := { dst := some 11, op := .call _, type := _, pos := _, after := _, guard := _ }) rfl (fun K hK => ?_) AllReadyH.nil
      go_simp
      refine (HWI.out _).mono ?_
      rintro e y55 ⟨rfl, hb⟩
      have hb55 : Below X.heap.size X y55 := keeps (hb54) hb
      have HG55_k := Lib.hid (HG54_k.out.below (hb) HG54_k.out.lt)
      have HG55_8 := Lib.hid (HG54_8.out.below (hb) HG54_8.out.lt)
      have HG55_7 := Lib.hid (HG54_7.out.below (hb) HG54_7.out.lt)
      clear hb
      go_wp2_with fail
      refine hK.out _ _ (hb55) (fun hHeld => ?_)
      clear hK K
      try simp only [Act.put, List.setIfInBounds_toArray, List.set_cons_zero, List.set_cons_succ]
      refine wpAnyH_ready (rs := [5]) (by kernel_rfl) (by simp) ?_
      refine AllReadyH.cons (o := { dst := some 14, op := .call _, type := _, pos := _, after := _, guard := _ }) rfl (fun K hK => ?_) AllReadyH.nil
      go_simp
      refine (HWO.out _).mono ?_
      rintro e y56 ⟨rfl, hb⟩
      have hb56 : Below X.heap.size X y56 := keeps (hb55) hb
      have HG56_k := Lib.hid (HG55_k.out.below (hb) HG55_k.out.lt)
      have HG56_8 := Lib.hid (HG55_8.out.below (hb) HG55_8.out.lt)
      have HG56_7 := Lib.hid (HG55_7.out.below (hb) HG55_7.out.lt)
      clear hb
      go_wp2_with fail
      refine hK.out _ _ (hb56) (fun hHeld => ?_)
      clear hK K
      try simp only [Act.put, List.setIfInBounds_toArray, List.set_cons_zero, List.set_cons_succ]
      refine wpAnyH_ready (rs := [8]) (by kernel_rfl) (by simp) ?_
      refine AllReadyH.cons (o := { dst := none, op := .store _ (.tmp 7) (.tmp 11), type := _, pos := _, after := _, guard := _ }) rfl (fun K hK => ?_) AllReadyH.nil
      have st57 := HG56_7.out.st kw
      go_simp
      clear st57
      have HG57_k := Lib.hid (HG56_k.out.row_other (c := y44.heap.size) (by have := HX0.out; omega) (kc kw))
      have HG57_8 := Lib.hid (HG56_8.out.row_other (c := y44.heap.size) (by omega) (kc kw))
      have HG57_7 := Lib.hid (HG56_7.out.row kw)
      refine hK.out _ _ ((below_row (hb56) hle7 (kc kw))) (fun hHeld => ?_)
      clear hK K
      try simp only [Act.put, List.setIfInBounds_toArray, List.set_cons_zero, List.set_cons_succ]
      refine wpAnyH_ready (rs := [9]) (by kernel_rfl) (by simp) ?_
      refine AllReadyH.cons (o := { dst := none, op := .store _ (.tmp 8) (.tmp 14), type := _, pos := _, after := _, guard := _ }) rfl (fun K hK => ?_) AllReadyH.nil
      have st58 := HG57_8.out.st ko
      go_simp
      clear st58
      have HG58_k := Lib.hid (HG57_k.out.row_other (c := y0.heap.size) (by have := HX0.out; omega) (kc ko))
      have HG58_8 := Lib.hid (HG57_8.out.row ko)
      have HG58_7 := Lib.hid (HG57_7.out.row_other (c := y0.heap.size) (by omega) (kc ko))
      refine hK.out _ _ ((below_row ((below_row (hb56) hle7 (kc kw))) hle8 (kc ko))) (fun hHeld => ?_)
      clear hK K
      try simp only [Act.put, List.setIfInBounds_toArray, List.set_cons_zero, List.set_cons_succ]
      refine wpAnyH_done (by kernel_rfl) ?_ _
      exact HC.out y44.heap.size y0.heap.size _ HG58_k.out HG58_7.out HG58_8.out (HBX.out _ (below_row ((below_row (hb56) hle7 (kc kw))) hle8 (kc ko)))
end Go.Proofs.Ytpdmkojclgkcnaa.Bt
