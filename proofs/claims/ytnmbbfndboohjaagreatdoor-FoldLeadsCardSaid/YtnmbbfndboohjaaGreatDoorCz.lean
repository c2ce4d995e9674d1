/- The function of FoldLeads returns true, over contracts (by program: gen-tpl16-leads.py). -/
import Derived.BigQuiet
import Derived.Test.YtnmbbfndboohjaaGreatDoorCD
import Derived.Test.YtnmbbfndboohjaaGreatDoorMM
import Derived.Test.YtnmbbfndboohjaaGreatDoorMT
import Derived.Test.YtnmbbfndboohjaaGreatDoorMO
namespace Go.Proofs.YtnmbbfndboohjaaGreatDoor
open Go.RowKit

theorem ds_al16 {w w' : World} {A : Option Addr} {ds : List (List UInt8)} (h : DS w A ds) (hb : Below w.heap.size w w') : DS w' A ds := h.below hb
set_option linter.unusedSimpArgs false in
set_option maxHeartbeats 16000000 in
set_option maxRecDepth 100000 in
theorem leads16_in {M : World → Int → Tv → Prop} (nd : NdV M) (pf : PfV M) (fo : FoV) (n : Int) (A : Option Addr) (c : Nat) (es : List En) (k : List UInt8) (hk : k.length = 32) (W : World) (hA : EA W A es) (hl : es.length ≤ 12) (hvl : ∀ e ∈ es, e.v.length ≤ 1000) (hf : fewK (es.map En.ent) = true) (hvx : Vars W) (h0 : 0 ≤ n) (h1 : n ≤ 256) :
    Calls Tryz.prog 3 #[.int .i64 n, .slice A es.length c, .agg (bA k)] W (Aye W) := by
  obtain ⟨X, hX⟩ : ∃ X, X = W.alloc (.cells (bA k) 24) := ⟨_, rfl⟩
  have hb0 : Below W.heap.size W X := by rw [hX]; exact Bt.one_below _ _
  have HR0 : Hid (RowB X W.heap.size 24 k) := by show RowB _ _ _ _; rw [hX]; exact RowB.alloc W k _
  have HX := Lib.hid hX
  have HB0 := Lib.hid hb0
  have HT := Lib.hid (tree_in nd n A c es X (hA.below hb0) hl hvl hf (hvx.below hb0) h0 h1)
  have HLE : Hid ((ofE es).length ≤ 100000) := Nat.le_trans (ofE_len es) (Nat.le_trans hl (by decide))
  have HVE : Hid (∀ e ∈ ofE es, e.v.length ≤ 1000) := fun e he => hvl e (ofE_mem he)
  have HN := Lib.hid (And.intro h0 h1)
  have HVX := Lib.hid (hvx.below hb0)
  clear hA hvl hf hvx hX hb0 h0 h1
  go_enter Tryz.func3, Tryz.ntmps3
  go_wp2_with fail
  rw [← HX.out]
  clear HX
  refine HT.out.mono ?_
  rintro _ w2 ⟨A2, c2, T, rfl, hc2, hI, hF⟩
  have HI := Lib.hid hI
  have HF2 := Lib.hid hF
  obtain ⟨O, hO⟩ : ∃ O, O = ofE es := ⟨_, rfl⟩
  rw [← hO] at HI HF2 HVE HLE ⊢
  clear hc2 hI hF HT hO
  have HHI := Lib.hid (hash_in n w2 HN.out.1 HN.out.2)
  go_wp2_with fail
  refine HHI.out.mono ?_
  rintro _ w3 ⟨b, rfl, hbn, hH, hB⟩
  have HF3 := Lib.hid (HF2.out.below nd hB)
  have HH3 := Lib.hid hH
  have HXB : Hid (X.heap.size ≤ b) := Nat.le_trans HF2.out.bel.size hbn
  have HBL : Hid (b < w3.heap.size) := lt_of_heap hH
  have LK : Hid (∀ w', Keep (fun i => i = b) w3 w' → ldA 24 w' (.pointer (some ⟨W.heap.size, 0, none⟩)) = .ok (.value (.agg (bA k))) w') := fun w' h => (HR0.out.below (keep_new HF3.out.bel HXB.out h)).ldKey hk
  have HAL : Hid (∀ w, Below X.heap.size X w → Calls Tryz.prog 6 #[] w fun e w' => e = .returned (.bool true) ∧ Below w.heap.size w w') := fun w h => alive16_c fo _ (HVX.out.below h)
  obtain ⟨P, hP⟩ : ∃ P, P = prK n (O.map En.ent) k (T.dep k 0) := ⟨_, rfl⟩
  obtain ⟨hfew, hdep⟩ : (dK (O.map En.ent) k (T.dep k 0)).length ≤ 1 ∧ ∀ j, j < T.dep k 0 → 2 ≤ (dK (O.map En.ent) k j).length := by
    obtain ⟨i1, i2, i3⟩ := At.fin HI.out.sep T 0 (HI.out.at k)
    exact ⟨i1.few HI.out.sep i2, fun j hj => i3 j (Nat.zero_le _) hj⟩
  have hd256 : T.dep k 0 ≤ 256 := dep_le HI.out.sep (HI.out.at k)
  have HPO : Hid P.Ok := by rw [hP]; exact prK_ok HI.out.sep k
  have HPL : Hid (P.sib.length ≤ 1000000) := by
    show _ ≤ _
    rw [hP]
    show (sibS n (O.map En.ent) k (T.dep k 0)).length ≤ 1000000
    rw [← depS_len]
    have := depS_le (O.map En.ent) k (T.dep k 0)
    omega
  have HCH : Hid (chkP P = 0) := by show _ = _; rw [hP]; exact prK_good hd256 hdep hfew
  obtain ⟨rt, hrt⟩ : ∃ rt, rt = rootP n P k := ⟨_, rfl⟩
  have HRL : Hid (rt.length = 32) := by show _ = _; rw [hrt]; exact dig_len _ _
  have HRR : Hid (∀ w, EA w A2 O → Calls Tryz.prog 9 #[.int .i64 n, .slice A2 O.length c2, .int .i64 0] w fun e w' => e = .returned (.agg (bA rt)) ∧ Below w.heap.size w w') := fun w h => by
    rw [hrt, hP, lead_root HI.out.sep hd256 hdep hfew]
    exact root7_c n 257 A2 c2 O 0 w h (by have := HLE.out; omega) HVE.out (.inr ⟨by omega, by omega, by omega⟩)
  have HPR : Hid (∀ w, Keep (fun i => i = b) w3 w → Hs w b n 0 → Calls Tryz.prog 8 #[ptr b, T.val, .agg (bA k)] w fun e w' => ∃ A cp c', e = .returned (.agg (pfC P (.slice A P.sib.length cp))) ∧ NewD w' w.heap.size A cp P.sib ∧ c' ≤ 0 + 1000 ∧ Hs w' b n c' ∧ Keep (fun i => i = b) w w') := fun w h hh => by
    rw [hP]
    have hf := HF3.out.hs nd HH3.out HXB.out h
    exact pf.prove w b n 0 (O.map En.ent) T k hh (by omega) hf.vars hf.ms HI.out hk
  have HRO : Hid (∀ w m A c, Keep (fun i => i = b) w3 w → Hs w b n m → m ≤ 500000 → DS w A P.sib → P.sib.length ≤ c → Calls Tryz.prog 7 #[ptr b, .agg (pfC P (.slice A P.sib.length c)), .agg (bA k)] w fun e w' => ∃ m', e = .returned (.tuple #[.agg (bA rt), .int .i64 0]) ∧ m' ≤ m + (P.dep.toNat + 2) ∧ Hs w' b n m' ∧ Keep (fun i => i = b) w w') := fun w m A c h hh hm hd hc => by
    rw [hrt]
    have hf := HF3.out.hs nd HH3.out HXB.out h
    exact fo.root w b n m P A c k hh hm hf.vars HPO.out hd hc HPL.out hk HCH.out
  clear hbn hH hB HHI HF2 HR0 HVX hP hfew hdep hd256 hrt
  go_wp2_with fail
  refine wp_region_held_drew (S := fun w' => Keep (fun i => i = b) w3 w') (by kernel_rfl) ((Keep.refl _ _).drew) (fun hHeld => ?_)
  have HH0 : Hid (Hs w3.drew b n 0) := HH3.out
  have hb0 : Keep (fun i => i = b) w3 w3.drew := (Keep.refl _ _).drew
  refine wpAnyH_take (i := 0) (oi := { dst := some 26, op := .move (.tmp 10), type := _, pos := _, after := _, guard := _ }) (v := ?_) rfl (by kernel_rfl) (by kernel_rfl) (by kernel_rfl) (fun _ _ _ h => h) (Or.inl ⟨by rfl, ?_⟩) (by assumption) ?_
  rotate_left 1
  · intro v hSv
    clear hSv
    go_simp
    try with_reducible rfl
  try simp only [Act.put, List.setIfInBounds_toArray, List.set_cons_zero, List.set_cons_succ]
  refine wpAnyH_take (i := 1) (oi := { dst := some 27, op := .move (.tmp 10), type := _, pos := _, after := _, guard := _ }) (v := ?_) rfl (by kernel_rfl) (by kernel_rfl) (by kernel_rfl) (fun _ _ _ h => h) (Or.inl ⟨by rfl, ?_⟩) (by assumption) ?_
  rotate_left 1
  · intro v hSv
    clear hSv
    go_simp
    try with_reducible rfl
  try simp only [Act.put, List.setIfInBounds_toArray, List.set_cons_zero, List.set_cons_succ]
  refine wpAnyH_take (i := 2) (oi := { dst := some 28, op := .move (.tmp 8), type := _, pos := _, after := _, guard := _ }) (v := ?_) rfl (by kernel_rfl) (by kernel_rfl) (by kernel_rfl) (fun _ _ _ h => h) (Or.inl ⟨by rfl, ?_⟩) (by assumption) ?_
  rotate_left 1
  · intro v hSv
    clear hSv
    go_simp
    try with_reducible rfl
  try simp only [Act.put, List.setIfInBounds_toArray, List.set_cons_zero, List.set_cons_succ]
  refine wpAnyH_take (i := 3) (oi := { dst := some 29, op := .load _ (.tmp 5), type := _, pos := _, after := _, guard := _ }) (v := ?_) rfl (by kernel_rfl) (by kernel_rfl) (by kernel_rfl) (fun _ _ _ h => h) (Or.inl ⟨by rfl, ?_⟩) (by assumption) ?_
  rotate_left 1
  · intro v hSv
    have hv1 := LK.out v hSv
    clear hSv
    go_simp
    try with_reducible rfl
  try simp only [Act.put, List.setIfInBounds_toArray, List.set_cons_zero, List.set_cons_succ]
  refine wpAnyH_take (i := 5) (oi := { dst := some 31, op := .load _ (.tmp 5), type := _, pos := _, after := _, guard := _ }) (v := ?_) rfl (by kernel_rfl) (by kernel_rfl) (by kernel_rfl) (fun _ _ _ h => h) (Or.inl ⟨by rfl, ?_⟩) (by assumption) ?_
  rotate_left 1
  · intro v hSv
    have hv1 := LK.out v hSv
    clear hSv
    go_simp
    try with_reducible rfl
  try simp only [Act.put, List.setIfInBounds_toArray, List.set_cons_zero, List.set_cons_succ]
  refine wpAnyH_ready (rs := [4, 10]) (by kernel_rfl) (by simp) ?_
  refine AllReadyH.cons (o := { dst := some 30, op := .call _, type := _, pos := _, after := _, guard := _ }) rfl (fun K hK => ?_) (AllReadyH.cons (o := { dst := some 11, op := .alloc _, type := _, pos := _, after := _, guard := _ }) rfl (fun K hK => ?_) (AllReadyH.nil))
  · skip
    go_simp
    refine (HPR.out _ hb0 HH0.out).mono ?_
    rintro e y1 ⟨A1, c1, m1, rfl, hN1, hm1, hH1, hb⟩
    have hb1 : Keep (fun i => i = b) w3 y1 := (hb0).trans hb
    have HQ1 := Lib.hid hH1
    have HD1 := Lib.hid (hN1.ds HPO.out.sib)
    have HC1 := Lib.hid hN1.1
    have HM1 := Lib.hid hm1
    clear hH1 hN1 hm1
    clear hb
    go_wp2_with fail
    refine hK.out _ _ (hb1) (fun hHeld => ?_)
    clear hK K
    try simp only [Act.put, List.setIfInBounds_toArray, List.set_cons_zero, List.set_cons_succ]
    refine wpAnyH_ready (rs := [6, 10]) (by kernel_rfl) (by simp) ?_
    refine AllReadyH.cons (o := { dst := some 32, op := .call _, type := _, pos := _, after := _, guard := _ }) rfl (fun K hK => ?_) (AllReadyH.cons (o := { dst := some 11, op := .alloc _, type := _, pos := _, after := _, guard := _ }) rfl (fun K hK => ?_) (AllReadyH.nil))
    · skip
      go_simp
      refine (HRO.out _ _ A1 c1 hb1 HQ1.out (by have := HM1.out; omega) (ds_al16 HD1.out (by first | exact Below.refl _ _ | assumption)) HC1.out).mono ?_
      rintro e y2 ⟨m2, rfl, hm2, hH2, hb⟩
      have hb2 : Keep (fun i => i = b) w3 y2 := (hb1).trans hb
      have HQ2 := Lib.hid hH2
      clear hH2 hm2
      clear hb
      go_wp2_with fail
      refine hK.out _ _ (hb2) (fun hHeld => ?_)
      clear hK K
      try simp only [Act.put, List.setIfInBounds_toArray, List.set_cons_zero, List.set_cons_succ]
      refine wpAnyH_take (i := 7) (oi := { dst := some 25, op := .move (.tmp 32), type := _, pos := _, after := _, guard := _ }) (v := ?_) rfl (by kernel_rfl) (by kernel_rfl) (by kernel_rfl) (fun _ _ _ h => h) (Or.inl ⟨by rfl, ?_⟩) (by assumption) ?_
      rotate_left 1
      · intro v hSv
        clear hSv
        go_simp
        try with_reducible rfl
      try simp only [Act.put, List.setIfInBounds_toArray, List.set_cons_zero, List.set_cons_succ]
      refine wpAnyH_take (i := 8) (oi := { dst := some 33, op := .extract (.tmp 25) 0, type := _, pos := _, after := _, guard := _ }) (v := ?_) rfl (by kernel_rfl) (by kernel_rfl) (by kernel_rfl) (fun _ _ _ h => h) (Or.inl ⟨by rfl, ?_⟩) (by assumption) ?_
      rotate_left 1
      · intro v hSv
        clear hSv
        go_simp
        try with_reducible rfl
      try simp only [Act.put, List.setIfInBounds_toArray, List.set_cons_zero, List.set_cons_succ]
      refine wpAnyH_take (i := 9) (oi := { dst := some 34, op := .extract (.tmp 25) 1, type := _, pos := _, after := _, guard := _ }) (v := ?_) rfl (by kernel_rfl) (by kernel_rfl) (by kernel_rfl) (fun _ _ _ h => h) (Or.inl ⟨by rfl, ?_⟩) (by assumption) ?_
      rotate_left 1
      · intro v hSv
        clear hSv
        go_simp
        try with_reducible rfl
      try simp only [Act.put, List.setIfInBounds_toArray, List.set_cons_zero, List.set_cons_succ]
      refine wpAnyH_ready (rs := [10]) (by kernel_rfl) (by simp) ?_
      refine AllReadyH.cons (o := { dst := some 11, op := .alloc _, type := _, pos := _, after := _, guard := _ }) rfl (fun K hK => ?_) AllReadyH.nil
      go_simp
      obtain ⟨y3, hy3⟩ : ∃ y, y = y2.alloc (.cells (bA z26) 31) := ⟨_, rfl⟩
      rw [← hy3]
      have hb3 : Keep (fun i => i = b) w3 y3 := by rw [hy3]; exact (hb2).alloc _
      have HR3 : Hid (y3.heap[y2.heap.size]? = some (.cells (bA z26) 31 (0, 0))) := by show _ = _; rw [hy3]; exact heap_alloc_new y2 _
      have HG3 : Hid (w3.heap.size ≤ y2.heap.size) := (hb2).size
      have HQ3 : Hid (Hs y3 b n m2) := by show Hs _ _ _ _; rw [hy3]; exact HQ2.out.keep ((Keep.refl (fun _ => False) _).alloc _) id
      have hbel3 : Below y2.heap.size y2 y3 := by rw [hy3]; exact Bt.one_below _ _
      clear hy3
      refine hK.out _ _ (hb3) (fun hHeld => ?_)
      clear hK K
      try simp only [Act.put, List.setIfInBounds_toArray, List.set_cons_zero, List.set_cons_succ]
      refine wpAnyH_ready (rs := [11]) (by kernel_rfl) (by simp) ?_
      refine AllReadyH.cons (o := { dst := none, op := .store _ (.tmp 11) (.tmp 33), type := _, pos := _, after := _, guard := _ }) rfl (fun K hK => ?_) AllReadyH.nil
      have sb := stA_row (t := 31) (v := bA rt) HR3.out (by rw [bA_size, HRL.out]; exact info26) (by rw [bA_size, bA_size, HRL.out]; rfl) (bA_one _)
      go_simp
      refine hK.out _ _ ((hb3).step (Keep.row _ _ _) fun i hi => .inr (by have e : i = y2.heap.size := hi; have := HG3.out; omega)) (fun hHeld => ?_)
      clear hK K
      try simp only [Act.put, List.setIfInBounds_toArray, List.set_cons_zero, List.set_cons_succ]
      refine wpAnyH_take (i := 12) (oi := { dst := some 12, op := .assign (.tmp 34), type := _, pos := _, after := _, guard := _ }) (v := ?_) rfl (by kernel_rfl) (by kernel_rfl) (by kernel_rfl) (fun _ _ _ h => h) (Or.inl ⟨by rfl, ?_⟩) (by assumption) ?_
      rotate_left 1
      · intro v hSv
        clear hSv
        go_simp
        try with_reducible rfl
      try simp only [Act.put, List.setIfInBounds_toArray, List.set_cons_zero, List.set_cons_succ]
      refine wpAnyH_done (by kernel_rfl) ?_ _
      obtain ⟨E, hE⟩ : ∃ E, E = y3.setRow y2.heap.size (bA rt) := ⟨_, rfl⟩
      have hKE : Keep (fun i => i = b) w3 E := by rw [hE]; exact ((hb3).step (Keep.row _ _ _) fun i hi => .inr (by have e : i = y2.heap.size := hi; have := HG3.out; omega))
      have hRE : E.heap[y2.heap.size]? = some (.cells (bA rt) 31 (0, 0)) := by rw [hE]; exact setRow_heap _ _ _ _ _ _ HR3.out
      have HFE := Lib.hid (HF3.out.hs nd HH3.out HXB.out hKE)
      have HBE := Lib.hid HFE.out.bel
      have lr : ∀ x : Later E, ldA 31 x.w (.pointer (some ⟨y2.heap.size, 0, none⟩)) = .ok (.value (.agg (bA rt))) x.w := fun x => RowB.ldDig (x.block hRE) HRL.out
      have HAE : Hid (∀ x : Later E, Calls Tryz.prog 6 #[] x.w fun e w' => e = .returned (.bool true) ∧ Below x.w.heap.size x.w w') := fun x => HAL.out _ (HBE.out.trans (x.h.mono HBE.out.size))
      have HRE : Hid (∀ x : Later E, Calls Tryz.prog 9 #[.int .i64 n, .slice A2 O.length c2, .int .i64 0] x.w fun e w' => e = .returned (.agg (bA rt)) ∧ Below x.w.heap.size x.w w') := fun x => HRR.out _ (HFE.out.ea.below x.h)
      have el := fun x y w => eqDig rt rt HRL.out HRL.out x y w
      rw [decide_eq_true (rfl : rt = rt)] at el
      rw [← hE]
      clear hE hKE hRE
      go_wp2_with fail
      refine wp_region_later (by kernel_rfl) (by kernel_rfl) ?_
      repeat (go_big_quiet_step ((first | (go_at_call 6; exact Later.call (HAE.out _)) | (go_at_call 9; exact Later.call (HRE.out _)))))
      refine wpQuiet_nil ?_
      rintro _ ⟨x, rfl⟩
      have HBZ := Lib.hid (keeps HB0.out (HBE.out.trans (x.h.mono HBE.out.size)))
      clear lr el
      go_wp2
      go_ret
      exact ⟨rfl, HBZ.out⟩
    · skip
      go_simp
      obtain ⟨y4, hy4⟩ : ∃ y, y = y1.alloc (.cells (bA z26) 31) := ⟨_, rfl⟩
      rw [← hy4]
      have hb4 : Keep (fun i => i = b) w3 y4 := by rw [hy4]; exact (hb1).alloc _
      have HR4 : Hid (y4.heap[y1.heap.size]? = some (.cells (bA z26) 31 (0, 0))) := by show _ = _; rw [hy4]; exact heap_alloc_new y1 _
      have HG4 : Hid (w3.heap.size ≤ y1.heap.size) := (hb1).size
      have HQ4 : Hid (Hs y4 b n m1) := by show Hs _ _ _ _; rw [hy4]; exact HQ1.out.keep ((Keep.refl (fun _ => False) _).alloc _) id
      have hbel4 : Below y1.heap.size y1 y4 := by rw [hy4]; exact Bt.one_below _ _
      clear hy4
      refine hK.out _ _ (hb4) (fun hHeld => ?_)
      clear hK K
      try simp only [Act.put, List.setIfInBounds_toArray, List.set_cons_zero, List.set_cons_succ]
      refine wpAnyH_ready (rs := [6]) (by kernel_rfl) (by simp) ?_
      refine AllReadyH.cons (o := { dst := some 32, op := .call _, type := _, pos := _, after := _, guard := _ }) rfl (fun K hK => ?_) AllReadyH.nil
      go_simp
      refine (HRO.out _ _ A1 c1 hb4 HQ4.out (by have := HM1.out; omega) (ds_al16 HD1.out (by first | exact Below.refl _ _ | assumption)) HC1.out).mono ?_
      rintro e y5 ⟨m5, rfl, hm5, hH5, hb⟩
      have hb5 : Keep (fun i => i = b) w3 y5 := (hb4).trans hb
      have HR5 : Hid (y5.heap[y1.heap.size]? = some (.cells (bA z26) 31 (0, 0))) := hb.heap HR4.out (by have := HG4.out; have := HBL.out; omega)
      have HQ5 := Lib.hid hH5
      clear hH5 hm5
      clear hb
      go_wp2_with fail
      refine hK.out _ _ (hb5) (fun hHeld => ?_)
      clear hK K
      try simp only [Act.put, List.setIfInBounds_toArray, List.set_cons_zero, List.set_cons_succ]
      refine wpAnyH_take (i := 7) (oi := { dst := some 25, op := .move (.tmp 32), type := _, pos := _, after := _, guard := _ }) (v := ?_) rfl (by kernel_rfl) (by kernel_rfl) (by kernel_rfl) (fun _ _ _ h => h) (Or.inl ⟨by rfl, ?_⟩) (by assumption) ?_
      rotate_left 1
      · intro v hSv
        clear hSv
        go_simp
        try with_reducible rfl
      try simp only [Act.put, List.setIfInBounds_toArray, List.set_cons_zero, List.set_cons_succ]
      refine wpAnyH_take (i := 8) (oi := { dst := some 33, op := .extract (.tmp 25) 0, type := _, pos := _, after := _, guard := _ }) (v := ?_) rfl (by kernel_rfl) (by kernel_rfl) (by kernel_rfl) (fun _ _ _ h => h) (Or.inl ⟨by rfl, ?_⟩) (by assumption) ?_
      rotate_left 1
      · intro v hSv
        clear hSv
        go_simp
        try with_reducible rfl
      try simp only [Act.put, List.setIfInBounds_toArray, List.set_cons_zero, List.set_cons_succ]
      refine wpAnyH_take (i := 9) (oi := { dst := some 34, op := .extract (.tmp 25) 1, type := _, pos := _, after := _, guard := _ }) (v := ?_) rfl (by kernel_rfl) (by kernel_rfl) (by kernel_rfl) (fun _ _ _ h => h) (Or.inl ⟨by rfl, ?_⟩) (by assumption) ?_
      rotate_left 1
      · intro v hSv
        clear hSv
        go_simp
        try with_reducible rfl
      try simp only [Act.put, List.setIfInBounds_toArray, List.set_cons_zero, List.set_cons_succ]
      refine wpAnyH_ready (rs := [11]) (by kernel_rfl) (by simp) ?_
      refine AllReadyH.cons (o := { dst := none, op := .store _ (.tmp 11) (.tmp 33), type := _, pos := _, after := _, guard := _ }) rfl (fun K hK => ?_) AllReadyH.nil
      have sb := stA_row (t := 31) (v := bA rt) HR5.out (by rw [bA_size, HRL.out]; exact info26) (by rw [bA_size, bA_size, HRL.out]; rfl) (bA_one _)
      go_simp
      refine hK.out _ _ ((hb5).step (Keep.row _ _ _) fun i hi => .inr (by have e : i = y1.heap.size := hi; have := HG4.out; omega)) (fun hHeld => ?_)
      clear hK K
      try simp only [Act.put, List.setIfInBounds_toArray, List.set_cons_zero, List.set_cons_succ]
      refine wpAnyH_take (i := 12) (oi := { dst := some 12, op := .assign (.tmp 34), type := _, pos := _, after := _, guard := _ }) (v := ?_) rfl (by kernel_rfl) (by kernel_rfl) (by kernel_rfl) (fun _ _ _ h => h) (Or.inl ⟨by rfl, ?_⟩) (by assumption) ?_
      rotate_left 1
      · intro v hSv
        clear hSv
        go_simp
        try with_reducible rfl
      try simp only [Act.put, List.setIfInBounds_toArray, List.set_cons_zero, List.set_cons_succ]
      refine wpAnyH_done (by kernel_rfl) ?_ _
      obtain ⟨E, hE⟩ : ∃ E, E = y5.setRow y1.heap.size (bA rt) := ⟨_, rfl⟩
      have hKE : Keep (fun i => i = b) w3 E := by rw [hE]; exact ((hb5).step (Keep.row _ _ _) fun i hi => .inr (by have e : i = y1.heap.size := hi; have := HG4.out; omega))
      have hRE : E.heap[y1.heap.size]? = some (.cells (bA rt) 31 (0, 0)) := by rw [hE]; exact setRow_heap _ _ _ _ _ _ HR5.out
      have HFE := Lib.hid (HF3.out.hs nd HH3.out HXB.out hKE)
      have HBE := Lib.hid HFE.out.bel
      have lr : ∀ x : Later E, ldA 31 x.w (.pointer (some ⟨y1.heap.size, 0, none⟩)) = .ok (.value (.agg (bA rt))) x.w := fun x => RowB.ldDig (x.block hRE) HRL.out
      have HAE : Hid (∀ x : Later E, Calls Tryz.prog 6 #[] x.w fun e w' => e = .returned (.bool true) ∧ Below x.w.heap.size x.w w') := fun x => HAL.out _ (HBE.out.trans (x.h.mono HBE.out.size))
      have HRE : Hid (∀ x : Later E, Calls Tryz.prog 9 #[.int .i64 n, .slice A2 O.length c2, .int .i64 0] x.w fun e w' => e = .returned (.agg (bA rt)) ∧ Below x.w.heap.size x.w w') := fun x => HRR.out _ (HFE.out.ea.below x.h)
      have el := fun x y w => eqDig rt rt HRL.out HRL.out x y w
      rw [decide_eq_true (rfl : rt = rt)] at el
      rw [← hE]
      clear hE hKE hRE
      go_wp2_with fail
      refine wp_region_later (by kernel_rfl) (by kernel_rfl) ?_
      repeat (go_big_quiet_step ((first | (go_at_call 6; exact Later.call (HAE.out _)) | (go_at_call 9; exact Later.call (HRE.out _)))))
      refine wpQuiet_nil ?_
      rintro _ ⟨x, rfl⟩
      have HBZ := Lib.hid (keeps HB0.out (HBE.out.trans (x.h.mono HBE.out.size)))
      clear lr el
      go_wp2
      go_ret
      exact ⟨rfl, HBZ.out⟩
  · skip
    go_simp
    obtain ⟨y6, hy6⟩ : ∃ y, y = (w3.alloc (.cells (bA z26) 31)).drew := ⟨_, rfl⟩
    rw [← hy6]
    have hb6 : Keep (fun i => i = b) w3 y6 := by rw [hy6]; exact ((Keep.refl _ _).alloc _).drew
    have HR6 : Hid (y6.heap[w3.heap.size]? = some (.cells (bA z26) 31 (0, 0))) := by show _ = _; rw [hy6]; exact heap_alloc_new w3 _
    have HG6 : Hid (w3.heap.size ≤ w3.heap.size) := Nat.le_refl _
    have HQ6 : Hid (Hs y6 b n 0) := by show Hs _ _ _ _; rw [hy6]; exact HH3.out.keep ((Keep.refl (fun _ => False) _).alloc _).drew id
    clear hy6
    refine hK.out _ _ (hb6) (fun hHeld => ?_)
    clear hK K
    try simp only [Act.put, List.setIfInBounds_toArray, List.set_cons_zero, List.set_cons_succ]
    refine wpAnyH_ready (rs := [4]) (by kernel_rfl) (by simp) ?_
    refine AllReadyH.cons (o := { dst := some 30, op := .call _, type := _, pos := _, after := _, guard := _ }) rfl (fun K hK => ?_) AllReadyH.nil
    go_simp
    refine (HPR.out _ hb6 HQ6.out).mono ?_
    rintro e y7 ⟨A7, c7, m7, rfl, hN7, hm7, hH7, hb⟩
    have hb7 : Keep (fun i => i = b) w3 y7 := (hb6).trans hb
    have HR7 : Hid (y7.heap[w3.heap.size]? = some (.cells (bA z26) 31 (0, 0))) := hb.heap HR6.out (by have := HG6.out; have := HBL.out; omega)
    have HQ7 := Lib.hid hH7
    have HD7 := Lib.hid (hN7.ds HPO.out.sib)
    have HC7 := Lib.hid hN7.1
    have HM7 := Lib.hid hm7
    clear hH7 hN7 hm7
    clear hb
    go_wp2_with fail
    refine hK.out _ _ (hb7) (fun hHeld => ?_)
    clear hK K
    try simp only [Act.put, List.setIfInBounds_toArray, List.set_cons_zero, List.set_cons_succ]
    refine wpAnyH_ready (rs := [6]) (by kernel_rfl) (by simp) ?_
    refine AllReadyH.cons (o := { dst := some 32, op := .call _, type := _, pos := _, after := _, guard := _ }) rfl (fun K hK => ?_) AllReadyH.nil
    go_simp
    refine (HRO.out _ _ A7 c7 hb7 HQ7.out (by have := HM7.out; omega) (ds_al16 HD7.out (by first | exact Below.refl _ _ | assumption)) HC7.out).mono ?_
    rintro e y8 ⟨m8, rfl, hm8, hH8, hb⟩
    have hb8 : Keep (fun i => i = b) w3 y8 := (hb7).trans hb
    have HR8 : Hid (y8.heap[w3.heap.size]? = some (.cells (bA z26) 31 (0, 0))) := hb.heap HR7.out (by have := HG6.out; have := HBL.out; omega)
    have HQ8 := Lib.hid hH8
    clear hH8 hm8
    clear hb
    go_wp2_with fail
    refine hK.out _ _ (hb8) (fun hHeld => ?_)
    clear hK K
    try simp only [Act.put, List.setIfInBounds_toArray, List.set_cons_zero, List.set_cons_succ]
    refine wpAnyH_take (i := 7) (oi := { dst := some 25, op := .move (.tmp 32), type := _, pos := _, after := _, guard := _ }) (v := ?_) rfl (by kernel_rfl) (by kernel_rfl) (by kernel_rfl) (fun _ _ _ h => h) (Or.inl ⟨by rfl, ?_⟩) (by assumption) ?_
    rotate_left 1
    · intro v hSv
      clear hSv
      go_simp
      try with_reducible rfl
    try simp only [Act.put, List.setIfInBounds_toArray, List.set_cons_zero, List.set_cons_succ]
    refine wpAnyH_take (i := 8) (oi := { dst := some 33, op := .extract (.tmp 25) 0, type := _, pos := _, after := _, guard := _ }) (v := ?_) rfl (by kernel_rfl) (by kernel_rfl) (by kernel_rfl) (fun _ _ _ h => h) (Or.inl ⟨by rfl, ?_⟩) (by assumption) ?_
    rotate_left 1
    · intro v hSv
      clear hSv
      go_simp
      try with_reducible rfl
    try simp only [Act.put, List.setIfInBounds_toArray, List.set_cons_zero, List.set_cons_succ]
    refine wpAnyH_take (i := 9) (oi := { dst := some 34, op := .extract (.tmp 25) 1, type := _, pos := _, after := _, guard := _ }) (v := ?_) rfl (by kernel_rfl) (by kernel_rfl) (by kernel_rfl) (fun _ _ _ h => h) (Or.inl ⟨by rfl, ?_⟩) (by assumption) ?_
    rotate_left 1
    · intro v hSv
      clear hSv
      go_simp
      try with_reducible rfl
    try simp only [Act.put, List.setIfInBounds_toArray, List.set_cons_zero, List.set_cons_succ]
    refine wpAnyH_ready (rs := [11]) (by kernel_rfl) (by simp) ?_
    refine AllReadyH.cons (o := { dst := none, op := .store _ (.tmp 11) (.tmp 33), type := _, pos := _, after := _, guard := _ }) rfl (fun K hK => ?_) AllReadyH.nil
    have sb := stA_row (t := 31) (v := bA rt) HR8.out (by rw [bA_size, HRL.out]; exact info26) (by rw [bA_size, bA_size, HRL.out]; rfl) (bA_one _)
    go_simp
    refine hK.out _ _ ((hb8).step (Keep.row _ _ _) fun i hi => .inr (by have e : i = w3.heap.size := hi; have := HG6.out; omega)) (fun hHeld => ?_)
    clear hK K
    try simp only [Act.put, List.setIfInBounds_toArray, List.set_cons_zero, List.set_cons_succ]
    refine wpAnyH_take (i := 12) (oi := { dst := some 12, op := .assign (.tmp 34), type := _, pos := _, after := _, guard := _ }) (v := ?_) rfl (by kernel_rfl) (by kernel_rfl) (by kernel_rfl) (fun _ _ _ h => h) (Or.inl ⟨by rfl, ?_⟩) (by assumption) ?_
    rotate_left 1
    · intro v hSv
      clear hSv
      go_simp
      try with_reducible rfl
    try simp only [Act.put, List.setIfInBounds_toArray, List.set_cons_zero, List.set_cons_succ]
    refine wpAnyH_done (by kernel_rfl) ?_ _
    obtain ⟨E, hE⟩ : ∃ E, E = y8.setRow w3.heap.size (bA rt) := ⟨_, rfl⟩
    have hKE : Keep (fun i => i = b) w3 E := by rw [hE]; exact ((hb8).step (Keep.row _ _ _) fun i hi => .inr (by have e : i = w3.heap.size := hi; have := HG6.out; omega))
    have hRE : E.heap[w3.heap.size]? = some (.cells (bA rt) 31 (0, 0)) := by rw [hE]; exact setRow_heap _ _ _ _ _ _ HR8.out
    have HFE := Lib.hid (HF3.out.hs nd HH3.out HXB.out hKE)
    have HBE := Lib.hid HFE.out.bel
    have lr : ∀ x : Later E, ldA 31 x.w (.pointer (some ⟨w3.heap.size, 0, none⟩)) = .ok (.value (.agg (bA rt))) x.w := fun x => RowB.ldDig (x.block hRE) HRL.out
    have HAE : Hid (∀ x : Later E, Calls Tryz.prog 6 #[] x.w fun e w' => e = .returned (.bool true) ∧ Below x.w.heap.size x.w w') := fun x => HAL.out _ (HBE.out.trans (x.h.mono HBE.out.size))
    have HRE : Hid (∀ x : Later E, Calls Tryz.prog 9 #[.int .i64 n, .slice A2 O.length c2, .int .i64 0] x.w fun e w' => e = .returned (.agg (bA rt)) ∧ Below x.w.heap.size x.w w') := fun x => HRR.out _ (HFE.out.ea.below x.h)
    have el := fun x y w => eqDig rt rt HRL.out HRL.out x y w
    rw [decide_eq_true (rfl : rt = rt)] at el
    rw [← hE]
    clear hE hKE hRE
    go_wp2_with fail
    refine wp_region_later (by kernel_rfl) (by kernel_rfl) ?_
    repeat (go_big_quiet_step ((first | (go_at_call 6; exact Later.call (HAE.out _)) | (go_at_call 9; exact Later.call (HRE.out _)))))
    refine wpQuiet_nil ?_
    rintro _ ⟨x, rfl⟩
    have HBZ := Lib.hid (keeps HB0.out (HBE.out.trans (x.h.mono HBE.out.size)))
    clear lr el
    go_wp2
    go_ret
    exact ⟨rfl, HBZ.out⟩
set_option maxHeartbeats 8000000 in
set_option maxRecDepth 100000 in
theorem leads16_out (fo : FoV) (n : Int) (A : Option Addr) (c : Nat) (es : List En) (k : List UInt8) (W : World) (hA : EA W A es) (hvx : Vars W) (h : (n < 0 ∨ 256 < n) ∨ fewK (es.map En.ent) = false) :
    Calls Tryz.prog 3 #[.int .i64 n, .slice A es.length c, .agg (bA k)] W (Aye W) := by
  obtain ⟨X, hX⟩ : ∃ X, X = W.alloc (.cells (bA k) 24) := ⟨_, rfl⟩
  have hb0 : Below W.heap.size W X := by rw [hX]; exact Bt.one_below _ _
  have HX := Lib.hid hX
  have HB0 := Lib.hid hb0
  have HVX := Lib.hid (hvx.below hb0)
  have HT := Lib.hid (tree_out n A c es X (hA.below hb0) h)
  have HAL := Lib.hid (fun w h => alive16_c fo w h)
  clear hA hvx h hX hb0
  go_enter Tryz.func3, Tryz.ntmps3
  go_wp2_with fail
  rw [← HX.out]
  clear HX
  refine HT.out.mono ?_
  rintro _ w2 ⟨rfl, hB⟩
  have HB := Lib.hid hB
  clear hB HT
  go_wp2_with fail
  refine (hash_any n w2).mono ?_
  rintro _ w3 ⟨q, rfl, hB3⟩
  have HB3 := Lib.hid (keeps HB.out hB3)
  clear hB3
  go_wp2_with fail
  refine (HAL.out w3 (HVX.out.below HB3.out)).mono ?_
  rintro _ w4 ⟨rfl, hB4⟩
  have HB4 := Lib.hid (keeps HB3.out hB4)
  clear hB4
  go_wp2_with fail
  go_ret
  exact ⟨rfl, keeps HB0.out HB4.out⟩
theorem leads16_w {M : World → Int → Tv → Prop} (nd : NdV M) (pf : PfV M) (fo : FoV) (n : Int) (A : Option Addr) (c : Nat) (es : List En) (k : List UInt8) (hk : k.length = 32) (W : World) (hA : EA W A es) (hvx : Vars W) :
    Calls Tryz.prog 3 #[.int .i64 n, .slice A es.length c, .agg (bA k)] W (Aye W) := by
  rcases Classical.em ((n < 0 ∨ 256 < n) ∨ fewK (es.map En.ent) = false) with h | h
  · exact leads16_out fo n A c es k W hA hvx h
  · have hf : fewK (es.map En.ent) = true := by
      cases hq : fewK (es.map En.ent) with
      | true => rfl
      | false => exact absurd (.inr hq) h
    have hl := few_len hf
    rw [List.length_map] at hl
    exact leads16_in nd pf fo n A c es k hk W hA hl (fun e he => Nat.le_trans (few_val hf e.ent (List.mem_map.2 ⟨e, he, rfl⟩)) (by decide)) hf hvx (by omega) (by omega)
end Go.Proofs.YtnmbbfndboohjaaGreatDoor
