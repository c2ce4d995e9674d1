/- The program: Decode. -/
import Derived.Test.YtbkokcfmndiedaaGreatDoorVk
namespace Go.Proofs.YtbkokcfmndiedaaGreatDoor
open Go.RowKit

theorem chkP_big17 {p : Pf} (h : 256 < p.sib.length) : chkP p ≠ 0 := by
  intro h0
  rcases chkP_cases p with ⟨h1, _⟩ | ⟨_, ⟨h1, _⟩ | ⟨_, _, _, _, h2, _⟩⟩
  · omega
  · omega
  · have := setZ_le17 (keyF p.bm) 256
    omega
theorem chk_part17 {b : List UInt8} (h : chkB17 b ≠ 0) : decE b = chkB17 b := by
  unfold chkB17 at h ⊢
  unfold decE
  split
  · rfl
  split
  · rfl
  split
  · rfl
  rename_i h1 h2 h3
  rw [if_neg h1, if_neg h2, if_neg h3] at h
  split at h
  · rename_i h4
    rw [if_pos h4]
    rcases h4 with h4 | h4 | h4
    · rw [if_pos h4]
    · split
      · rfl
      · rw [if_pos]
        rcases Classical.em ((b.length - restP b) % 32 = 0) with hm | hm
        · refine .inr (chkP_big17 ?_)
          show 256 < (chunks (b.drop (restP b)) ((b.length - restP b) / 32)).length
          rw [chunks_len]
          omega
        · exact .inl hm
    · split
      · rfl
      · rw [if_pos (.inl h4)]
  · exact absurd rfl h
theorem chk_all17 {b : List UInt8} (h : chkB17 b = 0) : 36 ≤ b.length ∧ at8 b 0 = 1 ∧ at8 b 1 ≤ 1 ∧ restP b ≤ b.length ∧ (b.length - restP b) % 32 = 0 ∧ (chkP (rawP b) = 0 → decE b = 0) ∧ (chkP (rawP b) ≠ 0 → decE b = chkP (rawP b)) := by
  unfold chkB17 at h
  split at h
  · cases h
  split at h
  · cases h
  split at h
  · cases h
  split at h
  · cases h
  rename_i h1 h2 h3 h4
  have he : decE b = if (b.length - restP b) % 32 ≠ 0 ∨ chkP (rawP b) ≠ 0 then 5 else 0 := by
    unfold decE
    rw [if_neg h1, if_neg h2, if_neg h3, if_neg (by omega)]
  refine ⟨by omega, by omega, by omega, by omega, by omega, fun h5 => ?_, fun h5 => ?_⟩
  · rw [he, if_neg]
    rintro (h6 | h6)
    · omega
    · exact h6 h5
  · rw [he, if_pos (.inr h5)]
    rcases chkP_cases (rawP b) with ⟨h6, _⟩ | ⟨_, ⟨h6, _⟩ | ⟨h6, _⟩⟩
    · exact absurd (show ((at8 b 1 : Nat) : Int) = 0 ∨ ((at8 b 1 : Nat) : Int) = 1 by omega) (by first | exact h6 | (intro h7; rcases h7 with h7 | h7 <;> simp_all [rawP]))
    · omega
    · omega
theorem bldPf_zero (w : World) : bldA 36 w #[] = .ok (.value (.agg (pfC zPf (.slice none 0 0)))) w := by kernel_rfl
set_option maxHeartbeats 8000000 in
set_option maxRecDepth 100000 in
theorem pdecode17_c (w : World) (b : List UInt8) (A : Option Addr) (c : Nat) (hA : BA w A b) (hc : b.length ≤ c) (hl : b.length ≤ 1000000) :
    Calls Tryz.prog 16 #[.slice A b.length c] w fun e w' => ∃ A' c', e = .returned (.tuple #[.agg (pfC (decQ b) (.slice A' (decQ b).sib.length c')), .int .i64 (decE b)]) ∧ NewD w' w.heap.size A' c' (decQ b).sib ∧ Below w.heap.size w w' := by
  obtain ⟨X, hX⟩ : ∃ X, X = w.alloc (.cells (pfC zPf (.slice none 0 0)) 36) := ⟨_, rfl⟩
  have hB : Below w.heap.size w X := by rw [hX]; exact Bt.one_below _ _
  have HRX : Hid (PfAt X w.heap.size zPf (.slice none 0 0)) := by show PfAt _ _ _ _; rw [hX]; exact PfAt.one _ _ _
  have HPT := Lib.hid (pparts17_c X b A c (hA.below hB) hl)
  have bd0 := bldPf_zero
  have HX := Lib.hid hX
  have HB := Lib.hid hB
  have HA := Lib.hid hA
  have HC := Lib.hid hc
  have HLE := Lib.hid hl
  obtain ⟨z, hz⟩ : ∃ z, z = chkB17 b := ⟨_, rfl⟩
  rw [← hz] at HPT
  clear hX hB hA hc hl
  by_cases hz0 : z = 0
  rotate_left 1
  · have HDE : Hid (decE b = z) := by show _ = _; rw [hz]; exact chk_part17 (by rw [← hz]; exact hz0)
    have HNZ : Hid (¬ z = 0) := hz0
    have HRES : Hid (∀ w', Below w.heap.size w w' → ∃ A' c', Ending.returned (.tuple #[.agg (pfC zPf (.slice none 0 0)), .int .i64 z]) = .returned (.tuple #[.agg (pfC (decQ b) (.slice A' (decQ b).sib.length c')), .int .i64 (decE b)]) ∧ NewD w' w.heap.size A' c' (decQ b).sib ∧ Below w.heap.size w w') := fun w' h => by
      rw [decQ_bad (by rw [HDE.out]; exact HNZ.out), HDE.out]
      exact ⟨none, 0, rfl, ⟨Nat.le_refl _, .inl rfl⟩, h⟩
    clear hz
    go_enter Tryz.func16, Tryz.ntmps16
    go_wp2_with fail
    rw [← HX.out]
    refine HPT.out.mono ?_
    rintro _ w1 ⟨rfl, hb1⟩
    have hrv := HRX.out.below hb1 HRX.out.lt
    have stz : stA 36 w1 (.pointer (some ⟨w.heap.size, 0, none⟩)) (.agg (pfC zPf (.slice none 0 0))) = .ok .skip (w1.setRow w.heap.size (pfC zPf (.slice none 0 0))) := stA_row hrv (by rw [pfC_size zPf_ok]; exact infoPf) rfl (pfC_one _ _ _ _)
    have HROW : Hid (PfAt (w1.setRow w.heap.size (pfC zPf (.slice none 0 0))) w.heap.size zPf (.slice none 0 0)) := setRow_heap _ _ _ _ _ _ hrv
    have HBF : Hid (Below w.heap.size w (w1.setRow w.heap.size (pfC zPf (.slice none 0 0)))) := Bt.below_row (HB.out.trans (hb1.mono HB.out.size)) (Nat.le_refl _) _
    clear hrv hb1 HPT
    go_wp2_with fail
    refine bodyPost_ret ?_ rfl (HRES.out _ HBF.out)
    exact results_row_tmp Tryz.results16 _ _ w.heap.size _ _ rfl rfl (run_loadVar_row (P := Tryz.prog) _ _ 36 36 (pfC zPf (.slice none 0 0)) (0, 0) _ HROW.out Tryz.underlying36 rfl (by rw [pfC_size zPf_ok]; exact infoPf))
  obtain ⟨h36, _, h1, hR, hm, hD0, hD1⟩ := chk_all17 (b := b) (by rw [← hz]; exact hz0)
  have HRD : Hid (∀ W, Below w.heap.size w W → Calls Tryz.prog 39 #[.slice A b.length c] W fun e w' => ∃ A' c', e = .returned (.agg (pfC (rawP b) (.slice A' (rawP b).sib.length c'))) ∧ NewD w' W.heap.size A' c' (rawP b).sib ∧ Below W.heap.size W w') := fun W h =>
    pread17_c W b A c (HA.out.below h) HC.out HLE.out h36 h1 hR hm
  obtain ⟨p, hp⟩ : ∃ p, p = rawP b := ⟨_, rfl⟩
  have HOK : Hid p.Ok := by show Pf.Ok _; rw [hp]; exact rawP_ok h36 hR
  have HSL : Hid (p.sib.length ≤ 1000000) := by
    show _ ≤ _
    rw [hp]
    show (chunks (b.drop (restP b)) ((b.length - restP b) / 32)).length ≤ _
    rw [chunks_len]
    have := HLE.out
    omega
  rw [← hp] at HRD hD0 hD1
  have HD0 : Hid (chkP p = 0 → decE b = 0 ∧ decQ b = p) := fun h => ⟨hD0 h, by rw [decQ_raw (hD0 h), hp]⟩
  have HD1 : Hid (chkP p ≠ 0 → decE b = chkP p ∧ decQ b = zPf) := fun h => ⟨hD1 h, decQ_bad (by rw [hD1 h]; exact h)⟩
  subst hz0
  clear hz hp h36 h1 hR hm hD0 hD1
  go_enter Tryz.func16, Tryz.ntmps16
  go_wp2_with fail
  rw [← HX.out]
  refine HPT.out.mono ?_
  rintro _ w1 ⟨rfl, hb1⟩
  have HB1 : Hid (Below w.heap.size w w1) := HB.out.trans (hb1.mono HB.out.size)
  have HR1 : Hid (PfAt w1 w.heap.size zPf (.slice none 0 0)) := HRX.out.below hb1 HRX.out.lt
  clear hb1 HPT
  go_wp2_with fail
  refine (HRD.out w1 HB1.out).mono ?_
  rintro _ w2 ⟨A2, c2, rfl, hn2, hb2⟩
  have st2 := stPf_new w2 (p := p) (z := zPf) HOK.out zPf_ok A2 p.sib.length c2 (.slice none 0 0)
  obtain ⟨V, hV⟩ : ∃ V, V = w2.alloc (.cells (pfC p (.slice A2 p.sib.length c2)) 36) := ⟨_, rfl⟩
  have HPV : Hid (PfAt V w2.heap.size p (.slice A2 p.sib.length c2)) := by show PfAt _ _ _ _; rw [hV]; exact PfAt.one _ _ _
  have hbv : Below w2.heap.size w2 V := by rw [hV]; exact Bt.one_below _ _
  have HBV : Hid (Below w.heap.size w V) := (HB1.out.trans (hb2.mono HB1.out.size)).trans (hbv.mono (Nat.le_trans HB1.out.size hb2.size))
  have HRV : Hid (PfAt V w.heap.size zPf (.slice none 0 0)) := (HR1.out.below hb2 HR1.out.lt).below hbv (Nat.lt_of_lt_of_le HR1.out.lt hb2.size)
  have HNV : Hid (NewD V w1.heap.size A2 c2 p.sib) := ⟨hn2.1, hn2.2.imp id fun h => h.below hbv⟩
  have lv := HPV.out.ld HOK.out
  have HCK := Lib.hid (pcheck_c V p A2 c2 HOK.out (HNV.out.ds HOK.out.sib) HNV.out.1 HSL.out)
  have HV := Lib.hid hV
  have HZ1 : Hid (w.heap.size < w1.heap.size) := HR1.out.lt
  rw [hV] at lv
  obtain ⟨y, hy⟩ : ∃ y, y = chkP p := ⟨_, rfl⟩
  rw [← hy] at HCK HD0 HD1
  clear hV hn2 hb2 hbv HRD hy
  go_wp2_with fail
  rw [← HV.out]
  refine HCK.out.mono ?_
  rintro _ w3 ⟨rfl, hb3⟩
  have HB3 : Hid (Below w.heap.size w w3) := HBV.out.trans (hb3.mono HBV.out.size)
  have hrv := HRV.out.below hb3 HRV.out.lt
  have HP3 := Lib.hid (HPV.out.below hb3 HPV.out.lt)
  have HN3 : Hid (NewD w3 w1.heap.size A2 c2 p.sib) := ⟨HNV.out.1, HNV.out.2.imp id fun h => h.below hb3⟩
  by_cases hy0 : y = 0
  · have l3 := HP3.out.ld HOK.out
    have stz : stA 36 w3 (.pointer (some ⟨w.heap.size, 0, none⟩)) (.agg (pfC p (.slice A2 p.sib.length c2))) = .ok .skip (w3.setRow w.heap.size (pfC p (.slice A2 p.sib.length c2))) := stA_row hrv (by rw [pfC_size HOK.out]; exact infoPf) (by rw [pfC_size HOK.out, pfC_size zPf_ok]) (pfC_one _ _ _ _)
    have HROW : Hid (PfAt (w3.setRow w.heap.size (pfC p (.slice A2 p.sib.length c2))) w.heap.size p (.slice A2 p.sib.length c2)) := setRow_heap _ _ _ _ _ _ hrv
    have HBF : Hid (Below w.heap.size w (w3.setRow w.heap.size (pfC p (.slice A2 p.sib.length c2)))) := Bt.below_row HB3.out (Nat.le_refl _) _
    have HNF : Hid (NewD (w3.setRow w.heap.size (pfC p (.slice A2 p.sib.length c2))) w.heap.size A2 c2 p.sib) := ⟨HN3.out.1, HN3.out.2.imp id fun h => OwnD.mono (B := w1.heap.size) (row11_other h fun i cs' hg hh => by
      have hge := OwnD.ge (w := w3) (B := w1.heap.size) (ds := p.sib) (v := .slice A2 p.sib.length c2) h i hg
      rw [setRow_other _ _ _ _ (by have := HZ1.out; omega)]
      exact hh) (Nat.le_of_lt HZ1.out)⟩
    have HD := Lib.hid (HD0.out hy0)
    subst hy0
    clear hrv hb3 lv HCK HD0 HD1 st2
    go_wp2_with fail
    refine bodyPost_ret ?_ rfl ⟨A2, c2, by rw [HD.out.1, HD.out.2], by rw [HD.out.2]; exact HNF.out, HBF.out⟩
    exact results_row_tmp Tryz.results16 _ _ w.heap.size _ _ rfl rfl (run_loadVar_row (P := Tryz.prog) _ _ 36 36 (pfC p (.slice A2 p.sib.length c2)) (0, 0) _ HROW.out Tryz.underlying36 rfl (by rw [pfC_size HOK.out]; exact infoPf))
  · have stz : stA 36 w3 (.pointer (some ⟨w.heap.size, 0, none⟩)) (.agg (pfC zPf (.slice none 0 0))) = .ok .skip (w3.setRow w.heap.size (pfC zPf (.slice none 0 0))) := stA_row hrv (by rw [pfC_size zPf_ok]; exact infoPf) rfl (pfC_one _ _ _ _)
    have HROW : Hid (PfAt (w3.setRow w.heap.size (pfC zPf (.slice none 0 0))) w.heap.size zPf (.slice none 0 0)) := setRow_heap _ _ _ _ _ _ hrv
    have HBF : Hid (Below w.heap.size w (w3.setRow w.heap.size (pfC zPf (.slice none 0 0)))) := Bt.below_row HB3.out (Nat.le_refl _) _
    have HD := Lib.hid (HD1.out hy0)
    clear hrv hb3 lv HCK HD0 HD1 st2
    go_wp2_with fail
    refine bodyPost_ret ?_ rfl ⟨none, 0, by rw [HD.out.1, HD.out.2], by rw [HD.out.2]; exact ⟨Nat.le_refl _, .inl rfl⟩, HBF.out⟩
    exact results_row_tmp Tryz.results16 _ _ w.heap.size _ _ rfl rfl (run_loadVar_row (P := Tryz.prog) _ _ 36 36 (pfC zPf (.slice none 0 0)) (0, 0) _ HROW.out Tryz.underlying36 rfl (by rw [pfC_size zPf_ok]; exact infoPf))
end Go.Proofs.YtbkokcfmndiedaaGreatDoor
