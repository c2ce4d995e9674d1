/- Several texts in one: Ve. -/
import Derived.Test.YtbkokcfmndiedaaGreatDoorVA
import Derived.Test.YtbkokcfmndiedaaGreatDoorLd
import Derived.Test.YtbkokcfmndiedaaGreatDoorAD
/- alive of layer 17, over contracts. -/
namespace Go.Proofs.YtbkokcfmndiedaaGreatDoor
open Go.RowKit

def k717 : List UInt8 := 7 :: List.replicate 31 0
theorem bldKey_717 (w : World) : bldA 24 w #[(0, .int .u8 7)] = .ok (.value (.agg (bA k717))) w := by kernel_rfl
theorem bldPf_none17 (w : World) : bldA 36 w #[] = .ok (.value (.agg (pfC zPf (.slice none 0 0)))) w := by kernel_rfl
theorem bldLeaf_717 (w : World) : bldA 33 w #[(0, .agg (bA k717))] = .ok (.value (.agg (bA (k717 ++ z26)))) w := by kernel_rfl
def pA : Pf := ⟨1, 0, k717 ++ z26, z26, []⟩
theorem bldPf_a (w : World) : bldA 36 w #[(0, .int .i64 1), (2, .agg (bA (k717 ++ z26)))] = .ok (.value (.agg (pfC pA (.slice none 0 0)))) w := by kernel_rfl
theorem pA_ok : pA.Ok := ⟨rfl, rfl, fun s h => by simp [pA] at h⟩
theorem z26_bits17 : ∀ n, n ≤ 256 → Bt.setZ (keyF z26) n = [] ∧ Bt.lastTo (keyF z26) n = -1
  | 0, _ => ⟨rfl, rfl⟩
  | n + 1, h => by
    obtain ⟨h1, h2⟩ := z26_bits17 n (by omega)
    have hb : ¬ Bt.bit (keyF z26) n = 1 := by
      have : keyF z26 (n / 8) = 0 := by
        unfold keyF z26
        rw [List.getD_eq_getElem?_getD, List.getElem?_replicate, if_pos (by omega)]; rfl
      unfold Bt.bit
      rw [this]; simp
    unfold Bt.setZ Bt.lastTo
    rw [if_neg hb, if_neg hb]
    exact ⟨h1, h2⟩
theorem chk_zero17 : chkP zPf = 0 := chkP_ok (.inl rfl) ⟨Int.le_refl 0, by decide, fun _ => rfl, by rw [show zPf.bm = z26 from rfl, (z26_bits17 256 (Nat.le_refl _)).1]; rfl, by rw [show zPf.bm = z26 from rfl, (z26_bits17 256 (Nat.le_refl _)).2]; rfl⟩
theorem chk_a : chkP pA = 0 := chkP_ok (.inr rfl) ⟨Int.le_refl 0, by decide, fun h => absurd h (by decide), by rw [show pA.bm = z26 from rfl, (z26_bits17 256 (Nat.le_refl _)).1]; rfl, by rw [show pA.bm = z26 from rfl, (z26_bits17 256 (Nat.le_refl _)).2]; rfl⟩
def z36 : List UInt8 := List.replicate 36 0
def w36 : List UInt8 := 1 :: List.replicate 35 0
theorem enc_zero : encP zPf = w36 := by decide
theorem set_36 : (bA z36).setIfInBounds 0 (.int .u8 1) = bA w36 := by kernel_rfl
theorem enc_a_len : (encP pA).length = 100 := by rw [encP_len pA_ok]; rfl
theorem kd_a : kdV (encP pA) = 1 ∧ kdE (encP pA) = 0 := by decide
theorem mk36 (w : World) : (Instr.makeSlice 38 (.int .i64 36) (.int .i64 36)).run Tryz.prog w = .ok (.slice (some ⟨w.heap.size, 0, none⟩) 36 36) (w.alloc (.cells (bA z36) 5)) := by kernel_rfl
theorem OwnB.opened17 {w : World} {B : Nat} {v : Value} {l : List UInt8} (h : OwnB w B v l) : ∃ A c, v = .slice A l.length c ∧ l.length ≤ c ∧ BA w A l := h.any
theorem BA_row17 {w : World} {g : Nat} {l : List UInt8} {t : TypeId} {fr : Nat × Nat} (h : w.heap[g]? = some (.cells (bA l) t fr)) : BA w (some ⟨g, 0, none⟩) l := fun j x hx => by
  refine ⟨g, 0, rfl, ?_⟩
  have hj := (List.getElem?_eq_some_iff.1 hx).1
  rw [cell_of_cells h, Nat.zero_add, bA_at _ _ hj]
  simp [List.getD_eq_getElem?_getD, hx, bv]
set_option linter.unusedSimpArgs false in
set_option maxHeartbeats 16000000 in
set_option maxRecDepth 100000 in
theorem alive17_c (co : CoV) (w : World) : Calls Tryz.prog 6 #[] w (Aye w) := by
  have bz := bldPf_none17
  have HC := Lib.hid (co.encode w zPf none 0 zPf_ok (DS.nil _ _) (Nat.le_refl _) (by decide) chk_zero17)
  go_enter Tryz.func6, Tryz.ntmps6
  go_wp2_with fail
  refine HC.out.mono ?_
  rintro _ w1 ⟨v1, rfl, hO1, hb1⟩
  obtain ⟨A1, c1, rfl, hc1, hA1⟩ := hO1.opened17
  rw [enc_zero] at hA1 hc1 ⊢
  have mk := mk36
  have e36 := set_36
  have b7 := bldKey_717
  have bl := bldLeaf_717
  have bp := bldPf_a
  have hw36 : w36.length = 36 := rfl
  rw [hw36] at hc1 ⊢
  obtain ⟨Y, hY⟩ : ∃ Y, Y = (w1.alloc (.cells (bA w36) 5)).alloc (.cells (pfC pA (.slice none 0 0)) 36) := ⟨_, rfl⟩
  have st1 : stA 36 ((w1.alloc (.cells (bA w36) 5)).alloc (.cells (pfC zPf (.slice none 0 0)) 36)) (.pointer (some ⟨w1.heap.size + 1, 0, none⟩)) (.agg (pfC pA (.slice none 0 0))) = .ok .skip Y := by
    have h := stPf_new (w1.alloc (.cells (bA w36) 5)) pA_ok zPf_ok none 0 0 (.slice none 0 0)
    rw [World.size_alloc] at h
    rw [h, hY]
  have hbY : Below w1.heap.size w1 Y := by rw [hY]; exact Bt.two_below _ _ _
  have hWY : BA Y (some ⟨w1.heap.size, 0, none⟩) w36 := by
    have h : Y.heap[w1.heap.size]? = some (.cells (bA w36) 5 (0, 0)) := by rw [hY]; exact heap_alloc2_old w1 _ _
    exact BA_row17 h
  have hPY : PfAt Y (w1.heap.size + 1) pA (.slice none 0 0) := by rw [hY]; exact heap_alloc2_new w1 _ _
  have lp := hPY.ld pA_ok
  have HA1 := Lib.hid (hA1.below (hbY))
  have HBY := Lib.hid (hb1.trans (hbY.mono hb1.size))
  have HWY := Lib.hid hWY
  have HPY := Lib.hid hPY
  have HC2 := Lib.hid (co.encode Y pA none 0 pA_ok (DS.nil _ _) (Nat.le_refl _) (by decide) chk_a)
  clear hO1 hA1 hb1 HC hc1 hY hbY hWY hPY hw36
  go_wp2_with fail
  refine HC2.out.mono ?_
  rintro _ w2 ⟨v2, rfl, hO2, hb2⟩
  obtain ⟨A2, c2, rfl, hc2, hA2⟩ := hO2.opened17
  have HD := Lib.hid (co.decode w2 (encP pA) A2 c2 hA2 hc2 (by rw [enc_a_len]; decide))
  rw [(dec_enc pA_ok chk_a).1, (dec_enc pA_ok chk_a).2] at HD
  have HK := fun w (h : BA w A2 (encP pA)) => co.kind w (encP pA) A2 c2 h hc2
  rw [kd_a.1, kd_a.2, enc_a_len] at HK
  rw [enc_a_len] at HD ⊢
  have HK := Lib.hid HK
  have HB2 := Lib.hid hb2
  have HA2 := Lib.hid hA2
  have HY2 : Hid (Below Y.heap.size Y w2) := hb2
  clear hO2 hA2 hb2 hc2 HC2 lp e36 b7 bl bp mk bz st1
  go_wp2_with fail
  refine HD.out.mono ?_
  rintro _ w3 ⟨A3, c3, rfl, hN3, hb3⟩
  obtain ⟨Z, hZ⟩ : ∃ Z, Z = w3.alloc (.cells (pfC pA (.slice A3 pA.sib.length c3)) 36) := ⟨_, rfl⟩
  have st2 := stPf_new w3 pA_ok zPf_ok A3 pA.sib.length c3 (.slice none 0 0)
  rw [← hZ] at st2
  have hbZ : Below w3.heap.size w3 Z := by rw [hZ]; exact Bt.one_below _ _
  have HYZ : Hid (Below Y.heap.size Y Z) := HY2.out.trans ((hb3.trans (hbZ.mono hb3.size)).mono HY2.out.size)
  have HQZ : Hid (PfAt Z w3.heap.size pA (.slice A3 pA.sib.length c3)) := by show PfAt _ _ _ _; rw [hZ]; exact PfAt.one _ _ _
  have HKZ := Lib.hid (HK.out Z (HA2.out.below (hb3.trans (hbZ.mono hb3.size))))
  clear hN3 hb3 hZ hbZ HD HK
  go_wp2_with fail
  refine HKZ.out.mono ?_
  rintro _ w4 ⟨rfl, hb4⟩
  have HY4 : Hid (Below Y.heap.size Y w4) := HYZ.out.trans (hb4.mono HYZ.out.size)
  have HQ4 : Hid (PfAt w4 w3.heap.size pA (.slice A3 pA.sib.length c3)) := HQZ.out.below hb4 HQZ.out.lt
  have HS4 := Lib.hid (same_yes A1 (some ⟨w1.heap.size, 0, none⟩) c1 36 36 w36 w4 rfl (HA1.out.below HY4.out) (HWY.out.below HY4.out) (by decide))
  clear hb4 HKZ st2
  go_wp2_with fail
  refine HS4.out.mono ?_
  rintro _ w5 ⟨rfl, hb5⟩
  have HY5 : Hid (Below Y.heap.size Y w5) := HY4.out.trans (hb5.mono HY4.out.size)
  have HQ5 : Hid (PfAt w5 w3.heap.size pA (.slice A3 pA.sib.length c3)) := HQ4.out.below hb5 HQ4.out.lt
  have lp5 := (HPY.out.below HY5.out HPY.out.lt).ld pA_ok
  have lq5 := HQ5.out.ld pA_ok
  have HE5 := requal_c pA pA pA_ok pA_ok none A3 0 c3 w5 (DS.nil _ _) (DS.nil _ _) (by decide) (by decide)
  rw [eqP_refl] at HE5
  have HE5 := Lib.hid HE5
  clear hb5 HS4
  go_wp2_with fail
  refine HE5.out.mono ?_
  rintro _ w6 ⟨rfl, hb6⟩
  have HY6 : Hid (Below Y.heap.size Y w6) := HY5.out.trans (hb6.mono HY5.out.size)
  have lp6 := (HPY.out.below HY6.out HPY.out.lt).ld pA_ok
  have HZ6 := co.size w6 pA none 0 pA_ok (DS.nil _ _) (Nat.le_refl _) (by decide)
  rw [show sizP pA = 100 by unfold sizP; rw [if_pos chk_a, enc_a_len]; rfl] at HZ6
  have HZ6 := Lib.hid HZ6
  clear hb6 HE5 lp5 lq5
  go_wp2_with fail
  refine HZ6.out.mono ?_
  rintro _ w7 ⟨rfl, hb7⟩
  have HB7 : Hid (Below w.heap.size w w7) := HBY.out.trans ((HY6.out.trans (hb7.mono HY6.out.size)).mono HBY.out.size)
  clear hb7 lp6
  go_wp2
  go_ret
  exact ⟨rfl, HB7.out⟩
end Go.Proofs.YtbkokcfmndiedaaGreatDoor
