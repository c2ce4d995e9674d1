/- The program: Expand (its region by program: gen-tpl15-expand.py). -/
import Derived.Test.YtnmbbfndboohjaaDoorAW
import Derived.Test.YtnmbbfndboohjaaDoorBd
import Derived.Test.YtnmbbfndboohjaaDoorMD
import Derived.Test.YtnmbbfndboohjaaDoorQn
import Derived.Test.YtnmbbfndboohjaaDoorAY
namespace Go.Proofs.YtnmbbfndboohjaaDoor
open Go.RowKit

/-! ### The row, sibling by sibling -/
theorem setZ_at (k : Nat → Nat) : ∀ (n i : Nat) (x : Int), (Bt.setZ k n)[i]? = some x → ∃ j : Nat, j < n ∧ x = (j : Int) ∧ Bt.bit k j = 1 ∧ (Bt.setZ k j).length = i
  | 0, i, x, h => by
    have h' : ([] : List Int)[i]? = some x := h
    simp at h'
  | n + 1, i, x, h => by
    unfold Bt.setZ at h
    split at h
    · rename_i hb
      rcases Nat.lt_or_ge i (Bt.setZ k n).length with hi | hi
      · rw [List.getElem?_append_left hi] at h
        obtain ⟨j, h1, h2⟩ := setZ_at k n i x h
        exact ⟨j, by omega, h2⟩
      · rw [List.getElem?_append_right hi] at h
        have h0 : i - (Bt.setZ k n).length = 0 := by
          have := (List.getElem?_eq_some_iff.1 h).1
          simp at this; omega
        rw [h0] at h
        exact ⟨n, by omega, by simpa using h.symm, hb, by omega⟩
    · obtain ⟨j, h1, h2⟩ := setZ_at k n i x h
      exact ⟨j, by omega, h2⟩
theorem cntB_inj {bm : List UInt8} {i j : Nat} (hi : Bt.bit (keyF bm) i = 1) (hj : Bt.bit (keyF bm) j = 1) (h : cntB bm i = cntB bm j) : i = j := by
  have up : ∀ a c : Nat, a < c → Bt.bit (keyF bm) a = 1 → cntB bm a < cntB bm c := fun a c hac ha => by
    have h1 := cntB_succ bm a
    rw [if_pos ha] at h1
    have h2 := cntB_mono bm (show a + 1 ≤ c by omega)
    omega
  rcases Nat.lt_trichotomy i j with e | e | e
  · have := up i j e hi; omega
  · exact e
  · have := up j i e hj; omega
/-- The row behind the first m siblings. -/
structure RowK (n : Int) (bm : List UInt8) (sib : List (List UInt8)) (D m : Nat) (row : List (List UInt8)) : Prop where
  len : row.length = D
  there : ∀ j, j < D → row[j]? = some (if Bt.bit (keyF bm) j = 1 ∧ cntB bm j < m then sib.getD (cntB bm j) [] else digL n emptyL)
theorem RowK.zero (n : Int) (bm : List UInt8) (sib : List (List UInt8)) (D : Nat) : RowK n bm sib D 0 (List.replicate D (digL n emptyL)) :=
  ⟨List.length_replicate, fun j hj => by rw [if_neg (by omega), List.getElem?_replicate, if_pos hj]⟩
theorem RowK.next {n : Int} {bm : List UInt8} {sib row : List (List UInt8)} {D m j : Nat} {x : List UInt8} (h : RowK n bm sib D m row) (hj : j < D) (hb : Bt.bit (keyF bm) j = 1) (hc : cntB bm j = m) (hx : sib[m]? = some x) : RowK n bm sib D (m + 1) (row.set j x) := by
  refine ⟨by rw [List.length_set]; exact h.len, fun i hi => ?_⟩
  by_cases e : j = i
  · subst e
    rw [List.getElem?_set_self (by rw [h.len]; exact hj), if_pos ⟨hb, by omega⟩, hc, List.getD_eq_getElem?_getD, hx]; rfl
  · rw [List.getElem?_set_ne e, h.there i hi]
    by_cases hbi : Bt.bit (keyF bm) i = 1
    · have hne : cntB bm i ≠ m := fun h1 => e (cntB_inj hb hbi (by rw [hc, h1]))
      by_cases hl : cntB bm i < m
      · rw [if_pos ⟨hbi, hl⟩, if_pos ⟨hbi, by omega⟩]
      · rw [if_neg (fun h => hl h.2), if_neg (fun h => by have := h.2; omega)]
    · rw [if_neg (fun h => hbi h.1), if_neg (fun h => hbi h.1)]
theorem expL_at (n : Int) (bm : List UInt8) (sib : List (List UInt8)) : ∀ (D j : Nat), j < D → (expL n bm sib D)[j]? = some (if Bt.bit (keyF bm) j = 1 then sib.getD (cntB bm j) [] else digL n emptyL)
  | 0, j, h => by omega
  | D + 1, j, h => by
    unfold expL
    by_cases e : j = D
    · subst e
      rw [List.getElem?_append_right (by rw [expL_len]; exact Nat.le_refl _), expL_len, Nat.sub_self]; rfl
    · rw [List.getElem?_append_left (by rw [expL_len]; omega)]
      exact expL_at n bm sib D j (by omega)
theorem RowK.done {n : Int} {bm : List UInt8} {sib row : List (List UInt8)} {D m : Nat} (h : RowK n bm sib D m row) (hD : D ≤ 256) (hm : (Bt.setZ (keyF bm) 256).length = m) : row = expL n bm sib D := by
  apply List.ext_getElem?
  intro j
  rcases Nat.lt_or_ge j D with hj | hj
  · rw [h.there j hj, expL_at n bm sib D j hj]
    by_cases hb : Bt.bit (keyF bm) j = 1
    · have := cntB_lt (show j < 256 by omega) hb
      rw [if_pos ⟨hb, by omega⟩, if_pos hb]
    · rw [if_neg (fun h => hb h.1), if_neg hb]
  · rw [List.getElem?_eq_none (by rw [h.len]; exact hj), List.getElem?_eq_none (by rw [expL_len]; exact hj)]
theorem RowK.lens {n : Int} {bm : List UInt8} {sib row : List (List UInt8)} {D m : Nat} (h : RowK n bm sib D m row) (hD : D ≤ 256) (hb : (Bt.setZ (keyF bm) 256).length = sib.length) (hs : ∀ s ∈ sib, s.length = 32) : ∀ s ∈ row, s.length = 32 := fun s hs' => by
  obtain ⟨j, hj⟩ := List.mem_iff_getElem?.1 hs'
  have hjD : j < D := by have := (List.getElem?_eq_some_iff.1 hj).1; rw [h.len] at this; exact this
  rw [h.there j hjD] at hj
  cases hj
  by_cases hc : Bt.bit (keyF bm) j = 1 ∧ cntB bm j < m
  · rw [if_pos hc]
    have := cntB_lt (show j < 256 by omega) hc.1
    rw [List.getD_eq_getElem?_getD, List.getElem?_eq_getElem (by omega)]
    exact hs _ (List.getElem_mem _)
  · rw [if_neg hc]; exact dig_len _ _
theorem keep_setCells (g : Nat) : ∀ (vs : List Value) (o : Nat) (w : World), Keep (fun i => i = g) w (w.setCells g o vs)
  | [], _, _ => Keep.refl _ _
  | v :: r, o, w => (Keep.cell w ⟨g, o, none⟩ v).trans (keep_setCells g r (o + 1) _)
set_option linter.unusedSimpArgs false in
set_option maxHeartbeats 16000000 in
set_option maxRecDepth 100000 in
theorem pexp_1 (w : World) (b : Nat) (n : Int) (m : Nat) (p : Pf) (A : Option Addr) (c : Nat) (hH : Hs w b n m) (hm : m ≤ 500000) (hv : Vars w) (hp : p.Ok) (hA : DS w A p.sib) (hc : p.sib.length ≤ c) (hl : p.sib.length ≤ 1000000) (h0 : chkP p = 0) :
    Calls Tryd.prog 31 #[ptr b, .agg (pfC p (.slice A p.sib.length c))] w fun e w' => ∃ A' c' m', e = .returned (.tuple #[.slice A' (expL n p.bm p.sib p.dep.toNat).length c', .int .i64 0]) ∧ NewD w' w.heap.size A' c' (expL n p.bm p.sib p.dep.toNat) ∧ m' ≤ m + 1 ∧ Hs w' b n m' ∧ Keep (fun i => i = b) w w' := by
  obtain ⟨X, hX⟩ : ∃ X, X = w.alloc (.cells (pfC p (.slice A p.sib.length c)) 29) := ⟨_, rfl⟩
  have hB : Below w.heap.size w X := by rw [hX]; exact Bt.one_below _ _
  have hP : PfAt X w.heap.size p (.slice A p.sib.length c) := by rw [hX]; exact PfAt.one _ _ _
  have hgood : p.good := by
    rcases chkP_cases p with h | ⟨_, h | h⟩
    · omega
    · omega
    · exact h.2
  obtain ⟨D, hD⟩ : ∃ D : Nat, D = p.dep.toNat := ⟨_, rfl⟩
  have hdep : p.dep = (D : Int) := by have := hgood.1; omega
  have HD2 : Hid (D ≤ 256) := by have := hgood.2.1; show D ≤ 256; omega
  have HGD := Lib.hid hgood
  have HCK := pcheck_c X p A c hp (hA.below hB) hc hl
  rw [h0] at HCK
  have HCK := Lib.hid HCK
  have ld := hP.ld hp
  rw [hX] at ld
  have HBL : Hid (b < w.heap.size) := lt_of_heap hH
  have HX := Lib.hid hX
  have HB := Lib.hid hB
  have HP := Lib.hid hP
  have HPO := Lib.hid hp
  have HAX := Lib.hid (hA.below hB)
  have HHX := Lib.hid (hH.keep (Keep.of_below (L := fun _ => False) hB) id)
  have HVX := Lib.hid (hv.below hB)
  have HMM := Lib.hid hm
  have HSL := Lib.hid hl
  obtain ⟨d, hd⟩ : ∃ d, d = digL n emptyL := ⟨_, rfl⟩
  have HDL : Hid (d.length = 32) := by show _ = _; rw [hd]; exact dig_len _ _
  have HDG := Lib.hid hd
  rw [← hD]
  have HDP := Lib.hid hdep
  clear hB hP hgood hp hA hc hl h0 hX hH hv hm hD hdep hd
  go_enter Tryd.func31, Tryd.ntmps31
  go_wp2_with fail
  rw [← HX.out]
  clear HX ld
  refine HCK.out.mono ?_
  rintro _ w1 ⟨rfl, hb1⟩
  have HB1 := Lib.hid hb1
  have HH1X : Hid (Hs w1 b n m) := HHX.out.keep (Keep.of_below (L := fun _ => False) hb1) id
  have HBW1 : Hid (Below w.heap.size w w1) := HB.out.trans (hb1.mono HB.out.size)
  have HP1 : Hid (PfAt w1 w.heap.size p (.slice A p.sib.length c)) := HP.out.below hb1 HP.out.lt
  have HNB : Hid (¬ w.heap.size = b) := fun e => by have := HBL.out; omega
  have LD : Hid (∀ q, Keep (fun i => i = b) w1 q → q.cell? ⟨w.heap.size, 1, none⟩ = some (.int .i64 (D : Int))) := fun q h => by
    have := (HP1.out.keep h HNB.out).dep
    rwa [HDP.out] at this
  have HRC : Hid (∀ q, Below w1.heap.size w1 q → Calls Tryd.prog 50 #[ptr b, .pointer none] q fun e w' => ∃ c2, e = .returned (.agg (bA d)) ∧ c2 ≤ m + 1 ∧ Hs w' b n c2 ∧ Keep (fun i => i = b) q w') := fun q h => by
    have := digN_c q b n m (HH1X.out.keep (Keep.of_below (L := fun _ => False) h) id) (by have := HMM.out; omega) ((HVX.out.below hb1).below h)
    rw [← HDG.out] at this
    exact this
  have bsx := bsD_one d HDL.out
  clear hb1 HCK
  go_wp2_with fail
  refine region_heldT 6 (fun q => Keep (fun i => i = b) w1 q) (by kernel_rfl) ?_
  have hHeld : Keep (fun i => i = b) w1 w1.drew := (Keep.refl _ _).drew
  refine HeldT.take (i := 0) (oi := { dst := some 15, op := .move (.tmp 0), type := _, pos := _, after := _, guard := _ }) (v := ?_) rfl (by kernel_rfl) (by kernel_rfl) (by kernel_rfl) (by kernel_rfl) (fun _ _ _ h => h) (Or.inl ⟨by rfl, ?_⟩) (by assumption) ?_
  rotate_left 1
  · intro v hSv
    clear hSv
    go_simp
    try with_reducible rfl
  try simp only [Act.put, List.setIfInBounds_toArray, List.set_cons_zero, List.set_cons_succ]
  refine HeldT.take (i := 3) (oi := { dst := some 18, op := .fieldAddr _ (.tmp 3) 1, type := _, pos := _, after := _, guard := _ }) (v := ?_) rfl (by kernel_rfl) (by kernel_rfl) (by kernel_rfl) (by kernel_rfl) (fun _ _ _ h => h) (Or.inl ⟨by rfl, ?_⟩) (by assumption) ?_
  rotate_left 1
  · intro v hSv
    clear hSv
    go_simp
    try with_reducible rfl
  try simp only [Act.put, List.setIfInBounds_toArray, List.set_cons_zero, List.set_cons_succ]
  refine HeldT.take (i := 4) (oi := { dst := some 19, op := .load _ (.tmp 18), type := _, pos := _, after := _, guard := _ }) (v := ?_) rfl (by kernel_rfl) (by kernel_rfl) (by kernel_rfl) (by kernel_rfl) (fun _ _ _ h => h) (Or.inl ⟨by rfl, ?_⟩) (by assumption) ?_
  rotate_left 1
  · intro v hSv
    have hv1 := LD.out v hSv
    clear hSv
    go_simp
    try with_reducible rfl
  try simp only [Act.put, List.setIfInBounds_toArray, List.set_cons_zero, List.set_cons_succ]
  refine HeldT.one (i := 1) (o := { dst := some 16, op := .call _, type := _, pos := _, after := _, guard := _ }) (by kernel_rfl) rfl rfl (fun K hK => ?_)
  go_wp2_with fail
  refine (HRC.out _ ((Below.refl _ _).drew)).mono ?_
  rintro e y1 ⟨m1, rfl, hm1, hH1, hk1⟩
  have hq1 : Keep (fun i => i = b) w1 y1 := ((Keep.refl _ _).drew).trans hk1
  have HQ1 := Lib.hid hq1
  have HM1 := Lib.hid hm1
  have HH1 := Lib.hid hH1
  clear hk1 hm1 hH1
  go_wp2_with fail
  refine hK.out _ _ (fun _ => hq1) (fun hS => ?_)
  have hHeld := hS (by decide)
  clear hS hK K
  try simp only [Act.put, List.setIfInBounds_toArray, List.set_cons_zero, List.set_cons_succ]
  clear hq1
  refine HeldT.one (i := 2) (o := { dst := some 17, op := .buildSlice _ _ _, type := _, pos := _, after := _, guard := _ }) (by kernel_rfl) rfl rfl (fun K hK => ?_)
  obtain ⟨Z, hZ⟩ : ∃ Z, Z = y1.alloc (.cells (bA d) 24) := ⟨_, rfl⟩
  have hq2 : Keep (fun i => i = b) w1 Z := by rw [hZ]; exact HQ1.out.alloc _
  have HDZ : Hid (DS Z (some ⟨y1.heap.size, 0, none⟩) [d]) := fun i x hi => by
    cases i with
    | zero => cases hi; exact ⟨HDL.out, y1.heap.size, 0, rfl, by rw [hZ]; exact dig_made _ _ _⟩
    | succ i => simp at hi
  have HHZ : Hid (Hs Z b n m1) := by show Hs _ _ _ _; rw [hZ]; exact HH1.out.keep ((Keep.refl (fun _ => False) _).alloc _) id
  have HQ2 := Lib.hid hq2
  have HZ := Lib.hid hZ
  clear hZ HQ1 HH1
  go_wp2_with fail
  rw [← HZ.out]
  refine hK.out _ _ (fun _ => hq2) (fun hS => ?_)
  have hHeld := hS (by decide)
  clear hS hK K
  try simp only [Act.put, List.setIfInBounds_toArray, List.set_cons_zero, List.set_cons_succ]
  clear hq2 HZ
  refine HeldT.one (i := 5) (o := { dst := some 20, op := .call _, type := _, pos := _, after := _, guard := _ }) (by kernel_rfl) rfl rfl (fun K hK => ?_)
  have HRP := Lib.hid (drep_c ⟨y1.heap.size, 0, none⟩ 1 D d Z HDZ.out (by have := HD2.out; omega))
  go_wp2_with fail
  refine HRP.out.mono ?_
  rintro e V ⟨rfl, hO, hbV⟩
  have HO := Lib.hid hO
  have HBV := Lib.hid hbV
  have hq3 : Keep (fun i => i = b) w1 V := HQ2.out.trans (Keep.of_below hbV)
  have HQ3 := Lib.hid hq3
  clear hO hbV HRP
  go_wp2_with fail
  refine hK.out _ _ (fun _ => hq3) (fun hS => ?_)
  have hHeld := hS (by decide)
  clear hS hK K
  try simp only [Act.put, List.setIfInBounds_toArray, List.set_cons_zero, List.set_cons_succ]
  clear hq3
  refine HeldT.one (i := 6) (o := { dst := some 7, op := .assign (.tmp 20), type := _, pos := _, after := _, guard := _ }) (by kernel_rfl) rfl rfl (fun K hK => ?_)
  go_wp2_with fail
  refine hK.out _ _ (fun h => absurd rfl h) (fun _ => ?_)
  clear hK K
  refine HeldT.done (by kernel_rfl) ?_ _
  have HPZ : Hid (PfAt Z w.heap.size p (.slice A p.sib.length c)) := HP1.out.keep HQ2.out HNB.out
  have HPV := Lib.hid (HPZ.out.below HBV.out HPZ.out.lt)
  have HDSZ : Hid (DS Z A p.sib) := DS.hs (HAX.out.below HB1.out) HH1X.out HQ2.out
  have c3 := HPV.out.bm HPO.out
  have c3' := HPV.out.bmA HPO.out
  rw [bA_key p.bm HPO.out.bm] at c3 c3'
  have HLI := Lib.hid (Bt.list_c (keyF p.bm) (keyF_byt p.bm) V)
  clear bsx
  go_wp2_with fail
  clear c3 c3'
  refine HLI.out.mono ?_
  rintro e W ⟨lv, rfl, hOZ, hbW⟩
  obtain ⟨A4, c4, hlv, _⟩ := hOZ.is
  subst hlv
  obtain ⟨L, hL⟩ : ∃ L, L = Bt.setZ (keyF p.bm) 256 := ⟨_, rfl⟩
  rw [← hL] at hOZ ⊢
  obtain ⟨N, hN⟩ : ∃ N, N = L.length := ⟨_, rfl⟩
  have HLS := Lib.hid hL
  have HN : Hid (p.sib.length = N) := by show _ = _; rw [hN, hL]; exact HGD.out.2.2.2.1.symm
  have HNL := Lib.hid hN
  have HN2 : Hid (N ≤ 1000000) := by show _ ≤ _; rw [← HN.out]; exact HSL.out
  have HBW := Lib.hid hbW
  have HOZ := Lib.hid hOZ
  have HBZW : Hid (Below Z.heap.size Z W) := HBV.out.trans (hbW.mono HBV.out.size)
  have HZV : Hid (Z.heap.size < V.heap.size) := by
    obtain ⟨_, cs, hcs⟩ := row11_lt HO.out Z.heap.size rfl
    exact lt_of_heap hcs
  have HOW := Lib.hid (HO.out.below hbW)
  rw [← hN]
  clear hOZ hbW hL hN HLI
  go_wp2_with fail
  go_loopg [8, 9, 25] N (fun gg _ _ i wr => ∃ (t : Nat) (row : List (List UInt8)), i = .int .i64 (t : Int) ∧ t ≤ N ∧ N - t = gg ∧ OwnD wr Z.heap.size (.slice (some ⟨Z.heap.size, 0, none⟩) D D) row ∧ Hid (RowK n p.bm p.sib D t row) ∧ Keep (fun i => i = Z.heap.size) W wr)
  case atStart => exact ⟨0, _, rfl, by omega, by omega, HOW.out, by have := RowK.zero n p.bm p.sib D; rw [← HDG.out] at this; exact this, Keep.refl _ _⟩
  case round =>
    obtain ⟨t, row, rfl, ht, rfl, hO, HRK, hK⟩ := hrel
    have HO1 := Lib.hid hO
    have HK := Lib.hid hK
    have HBU : Hid (Below Z.heap.size Z wr) := keep_new HBZW.out (Nat.le_refl _) hK
    have HPR := Lib.hid (HPZ.out.below HBU.out HPZ.out.lt)
    have HLEN := Lib.hid (HRK.out.lens HD2.out HGD.out.2.2.2.1 HPO.out.sib)
    have HOZR : Hid (Bt.OwnZ wr V.heap.size (.slice A4 L.length c4) L) := row11_keep HOZ.out hK fun g h e => by
      have h1 := (row11_lt HOZ.out g h).1
      have h2 : g = Z.heap.size := e
      have := HZV.out; omega
    clear hO hK
    by_cases hlt : t < N
    · have hd : decide (t < N) = true := decide_eq_true hlt
      have hd' : decide ((t : Int) < (N : Int)) = true := decide_eq_true (by omega)
      obtain ⟨x0, hx0⟩ : ∃ x0, L[t]? = some x0 := ⟨_, List.getElem?_eq_getElem (by rw [← HNL.out]; exact hlt)⟩
      obtain ⟨j, hj256, rfl, hbit, hcnt⟩ := setZ_at (keyF p.bm) 256 t x0 (by rw [← HLS.out]; exact hx0)
      obtain ⟨A5, c5, e5, hza⟩ := HOZR.out.is
      cases e5
      obtain ⟨g4, o4, rfl, hcell⟩ := hza t _ hx0
      have hjD : j < D := by
        have h1 := lastTo_mono (keyF p.bm) hbit 256 hj256
        have h2 := HGD.out.2.2.2.2
        have h3 := HDP.out
        omega
      obtain ⟨y, hy⟩ : ∃ y, p.sib[t]? = some y := ⟨_, List.getElem?_eq_getElem (by rw [HN.out]; exact hlt)⟩
      obtain ⟨hyl, bx, ox, hAe, hry⟩ := (HDSZ.out.below (HBU.out)) t y hy
      have s4 := HPR.out.sib HPO.out
      rw [hAe, HN.out] at s4
      have ldx := ldDig hry hyl
      have hrl : row.length = D := HRK.out.len
      obtain ⟨st, hO'⟩ := HO1.out.put (i := j) HLEN.out (by rw [hrl]; exact hjD) hyl
      have HRN : Hid (RowK n p.bm p.sib D (t + 1) (row.set j y)) := HRK.out.next hjD hbit hcnt hy
      have HO6 := Lib.hid hO'
      have HK6 : Hid (Keep (fun i => i = Z.heap.size) W (wr.setCells Z.heap.size (j * 32) (y.map bv))) := HK.out.trans (keep_setCells _ _ _ _)
      have i0 : (0 : Int) ≤ (t : Int) := by omega
      have i1 : (t : Int) < (N : Int) := by omega
      have j0 : (0 : Int) ≤ (j : Int) := by omega
      have j1 : (j : Int) < (D : Int) := by omega
      have hw1 : IntKind.i64.wrap ((t : Int) + 1) = (t : Int) + 1 := Bt.wrap_inr (by omega) (by have := HN2.out; omega)
      clear hx0 hj256 hbit hcnt hza hy hyl hry hrl hO' hAe
      go_wp2_with fail
      go_roundg (N - (t + 1))
      case measure => omega
      case rel => exact ⟨t + 1, _, by go_num, by omega, rfl, HO6.out, HRN, HK6.out⟩
    · obtain rfl : t = N := by omega
      have hd : decide (t < t) = false := decide_eq_false (by omega)
      go_wp2_with fail
      go_ret2
      have hrow := HRK.out.done HD2.out (by rw [HGD.out.2.2.2.1]; exact HN.out)
      have hO := HO1.out
      rw [hrow] at hO
      have hZw : w.heap.size ≤ Z.heap.size := Nat.le_trans HBW1.out.size HQ2.out.size
      refine ⟨some ⟨Z.heap.size, 0, none⟩, D, m1, by rw [expL_len]; rfl, ⟨by rw [expL_len]; exact Nat.le_refl _, .inr (OwnD.mono (B := Z.heap.size) (by rw [expL_len]; exact hO) hZw)⟩, by have := HM1.out; omega, (HHZ.out.keep (Keep.of_below (L := fun _ => False) HBZW.out) id).keep HK.out fun e => by have := HBL.out; omega, ?_⟩
      have k1 : Keep (fun i => i = b) w W := ((Keep.of_below HBW1.out).trans HQ2.out).trans (Keep.of_below HBZW.out)
      exact k1.step HK.out fun i hi => .inr (by have e : i = Z.heap.size := hi; omega)
theorem pexp_ok (w : World) (b : Nat) (n : Int) (m : Nat) (p : Pf) (A : Option Addr) (c : Nat) (hH : Hs w b n m) (hm : m ≤ 500000) (hv : Vars w) (hp : p.Ok) (hA : DS w A p.sib) (hc : p.sib.length ≤ c) (hl : p.sib.length ≤ 1000000) (h0 : chkP p = 0) :
    Calls Tryd.prog 31 #[ptr b, .agg (pfC p (.slice A p.sib.length c))] w fun e w' => ∃ A' c' m', e = .returned (.tuple #[.slice A' (expL n p.bm p.sib p.dep.toNat).length c', .int .i64 0]) ∧ NewD w' w.heap.size A' c' (expL n p.bm p.sib p.dep.toNat) ∧ m' ≤ m + 1000 ∧ Hs w' b n m' ∧ Keep (fun i => i = b) w w' :=
  (pexp_1 w b n m p A c hH hm hv hp hA hc hl h0).mono fun _ _ ⟨A', c', m', h1, h2, h3, h4⟩ => ⟨A', c', m', h1, h2, by omega, h4⟩
set_option linter.unusedSimpArgs false in
set_option maxHeartbeats 4000000 in
set_option maxRecDepth 100000 in
theorem pexp_bad
    (w : World) (b : Nat) (n : Int) (m : Nat) (p : Pf) (A : Option Addr) (c : Nat) (hH : Hs w b n m) (hp : p.Ok) (hA : DS w A p.sib) (hc : p.sib.length ≤ c) (hl : p.sib.length ≤ 1000000) (h0 : chkP p ≠ 0) :
    Calls Tryd.prog 31 #[ptr b, .agg (pfC p (.slice A p.sib.length c))] w fun e w' => ∃ A' c' m', e = .returned (.tuple #[.slice A' 0 c', .int .i64 (chkP p)]) ∧ m' ≤ m + 1000 ∧ Hs w' b n m' ∧ Keep (fun i => i = b) w w' := by
  obtain ⟨X, hX⟩ : ∃ X, X = w.alloc (.cells (pfC p (.slice A p.sib.length c)) 29) := ⟨_, rfl⟩
  have hB : Below w.heap.size w X := by rw [hX]; exact Bt.one_below _ _
  have hP : PfAt X w.heap.size p (.slice A p.sib.length c) := by rw [hX]; exact PfAt.one _ _ _
  have HCK := Lib.hid (pcheck_c X p A c hp (hA.below hB) hc hl)
  have ld := hP.ld hp
  rw [hX] at ld
  obtain ⟨z, hz⟩ : ∃ z, z = chkP p := ⟨_, rfl⟩
  rw [← hz] at HCK h0 ⊢
  have nz : (z != 0) = true := by simpa using h0
  have HX := Lib.hid hX
  have HB := Lib.hid hB
  have HHX := Lib.hid (hH.keep (Keep.of_below (L := fun _ => False) hB) id)
  clear hB hP hp hA hc hl h0 hX hH hz
  go_enter Tryd.func31, Tryd.ntmps31
  go_wp2_with fail
  rw [← HX.out]
  clear HX ld
  refine HCK.out.mono ?_
  rintro _ w1 ⟨rfl, hb1⟩
  have HB1 := Lib.hid hb1
  clear hb1 HCK
  go_wp2_with fail
  go_ret2
  exact ⟨none, 0, m, rfl, by omega, HHX.out.keep (Keep.of_below (L := fun _ => False) HB1.out) id, Keep.of_below (HB.out.trans (HB1.out.mono HB.out.size))⟩
end Go.Proofs.YtnmbbfndboohjaaDoor
