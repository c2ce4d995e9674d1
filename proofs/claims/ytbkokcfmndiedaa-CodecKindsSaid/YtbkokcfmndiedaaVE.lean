/- Several texts in one: Ve Vf. -/
import Derived.Test.YtbkokcfmndiedaaVA
import Derived.Test.YtbkokcfmndiedaaLd
import Derived.Test.YtbkokcfmndiedaaAD
import Derived.Test.YtbkokcfmndiedaaVC
import Derived.Test.YtbkokcfmndiedaaVd
import Derived.Test.YtbkokcfmndiedaaLc
/- alive of layer 17, over contracts. -/
namespace Go.Proofs.Ytbkokcfmndiedaa
open Go.RowKit

def k717 : List UInt8 := 7 :: List.replicate 31 0
theorem bldKey_717 (w : World) : bldA 23 w #[(0, .int .u8 7)] = .ok (.value (.agg (bA k717))) w := by kernel_rfl
theorem bldPf_none17 (w : World) : bldA 29 w #[] = .ok (.value (.agg (pfC zPf (.slice none 0 0)))) w := by kernel_rfl
theorem bldLeaf_717 (w : World) : bldA 26 w #[(0, .agg (bA k717))] = .ok (.value (.agg (bA (k717 ++ z26)))) w := by kernel_rfl
def pA : Pf := ⟨1, 0, k717 ++ z26, z26, []⟩
theorem bldPf_a (w : World) : bldA 29 w #[(0, .int .i64 1), (2, .agg (bA (k717 ++ z26)))] = .ok (.value (.agg (pfC pA (.slice none 0 0)))) w := by kernel_rfl
theorem pA_ok : pA.Ok := ⟨rfl, rfl, fun s h => by simp [pA] at h⟩
theorem z26_bits17 : ∀ n, n ≤ 256 → Bt.setZ (keyF z26) n = [] ∧ Bt.lastTo (keyF z26) n = -1
  | 0, _ => ⟨rfl, rfl⟩
  | n + 1, h => by
    obtain ⟨h1, h2⟩ := z26_bits17 n (by omega)
    have hb : ¬ Bt.bit (keyF z26) n = 1 := by
      have : keyF z26 (n / 8) = 0 := by
        unfold keyF z26
        rw [List.getD_eq_getElem?_getD, List.getElem?_replicate, if_pos (by omega)]; rfl
      unfold Bt.bit
      rw [this]; simp
    unfold Bt.setZ Bt.lastTo
    rw [if_neg hb, if_neg hb]
    exact ⟨h1, h2⟩
theorem chk_zero17 : chkP zPf = 0 := chkP_ok (.inl rfl) ⟨Int.le_refl 0, by decide, fun _ => rfl, by rw [show zPf.bm = z26 from rfl, (z26_bits17 256 (Nat.le_refl _)).1]; rfl, by rw [show zPf.bm = z26 from rfl, (z26_bits17 256 (Nat.le_refl _)).2]; rfl⟩
theorem chk_a : chkP pA = 0 := chkP_ok (.inr rfl) ⟨Int.le_refl 0, by decide, fun h => absurd h (by decide), by rw [show pA.bm = z26 from rfl, (z26_bits17 256 (Nat.le_refl _)).1]; rfl, by rw [show pA.bm = z26 from rfl, (z26_bits17 256 (Nat.le_refl _)).2]; rfl⟩
def z36 : List UInt8 := List.replicate 36 0
def w36 : List UInt8 := 1 :: List.replicate 35 0
theorem enc_zero : encP zPf = w36 := by decide
theorem set_36 : (bA z36).setIfInBounds 0 (.int .u8 1) = bA w36 := by kernel_rfl
theorem enc_a_len : (encP pA).length = 100 := by rw [encP_len pA_ok]; rfl
theorem kd_a : kdV (encP pA) = 1 ∧ kdE (encP pA) = 0 := by decide
theorem mk36 (w : World) : (Instr.makeSlice 31 (.int .i64 36) (.int .i64 36)).run Try.prog w = .ok (.slice (some ⟨w.heap.size, 0, none⟩) 36 36) (w.alloc (.cells (bA z36) 5)) := by kernel_rfl
theorem OwnB.opened17 {w : World} {B : Nat} {v : Value} {l : List UInt8} (h : OwnB w B v l) : ∃ A c, v = .slice A l.length c ∧ l.length ≤ c ∧ BA w A l := h.any
theorem BA_row17 {w : World} {g : Nat} {l : List UInt8} {t : TypeId} {fr : Nat × Nat} (h : w.heap[g]? = some (.cells (bA l) t fr)) : BA w (some ⟨g, 0, none⟩) l := fun j x hx => by
  refine ⟨g, 0, rfl, ?_⟩
  have hj := (List.getElem?_eq_some_iff.1 hx).1
  rw [cell_of_cells h, Nat.zero_add, bA_at _ _ hj]
  simp [List.getD_eq_getElem?_getD, hx, bv]
set_option linter.unusedSimpArgs false in
set_option maxHeartbeats 16000000 in
set_option maxRecDepth 100000 in
theorem alive17_c (co : CoV) (w : World) : Calls Try.prog 7 #[] w (Aye w) := by
  have bz := bldPf_none17
  have HC := Lib.hid (co.encode w zPf none 0 zPf_ok (DS.nil _ _) (Nat.le_refl _) (by decide) chk_zero17)
  go_enter Try.func7, Try.ntmps7
  go_wp2_with fail
  refine HC.out.mono ?_
  rintro _ w1 ⟨v1, rfl, hO1, hb1⟩
  obtain ⟨A1, c1, rfl, hc1, hA1⟩ := hO1.opened17
  rw [enc_zero] at hA1 hc1 ⊢
  have mk := mk36
  have e36 := set_36
  have b7 := bldKey_717
  have bl := bldLeaf_717
  have bp := bldPf_a
  have hw36 : w36.length = 36 := rfl
  rw [hw36] at hc1 ⊢
  obtain ⟨Y, hY⟩ : ∃ Y, Y = (w1.alloc (.cells (bA w36) 5)).alloc (.cells (pfC pA (.slice none 0 0)) 29) := ⟨_, rfl⟩
  have st1 : stA 29 ((w1.alloc (.cells (bA w36) 5)).alloc (.cells (pfC zPf (.slice none 0 0)) 29)) (.pointer (some ⟨w1.heap.size + 1, 0, none⟩)) (.agg (pfC pA (.slice none 0 0))) = .ok .skip Y := by
    have h := stPf_new (w1.alloc (.cells (bA w36) 5)) pA_ok zPf_ok none 0 0 (.slice none 0 0)
    rw [World.size_alloc] at h
    rw [h, hY]
  have hbY : Below w1.heap.size w1 Y := by rw [hY]; exact Bt.two_below _ _ _
  have hWY : BA Y (some ⟨w1.heap.size, 0, none⟩) w36 := by
    have h : Y.heap[w1.heap.size]? = some (.cells (bA w36) 5 (0, 0)) := by rw [hY]; exact heap_alloc2_old w1 _ _
    exact BA_row17 h
  have hPY : PfAt Y (w1.heap.size + 1) pA (.slice none 0 0) := by rw [hY]; exact heap_alloc2_new w1 _ _
  have lp := hPY.ld pA_ok
  have HA1 := Lib.hid (hA1.below (hbY))
  have HBY := Lib.hid (hb1.trans (hbY.mono hb1.size))
  have HWY := Lib.hid hWY
  have HPY := Lib.hid hPY
  have HC2 := Lib.hid (co.encode Y pA none 0 pA_ok (DS.nil _ _) (Nat.le_refl _) (by decide) chk_a)
  clear hO1 hA1 hb1 HC hc1 hY hbY hWY hPY hw36
  go_wp2_with fail
  refine HC2.out.mono ?_
  rintro _ w2 ⟨v2, rfl, hO2, hb2⟩
  obtain ⟨A2, c2, rfl, hc2, hA2⟩ := hO2.opened17
  have HD := Lib.hid (co.decode w2 (encP pA) A2 c2 hA2 hc2 (by rw [enc_a_len]; decide))
  rw [(dec_enc pA_ok chk_a).1, (dec_enc pA_ok chk_a).2] at HD
  have HK := fun w (h : BA w A2 (encP pA)) => co.kind w (encP pA) A2 c2 h hc2
  rw [kd_a.1, kd_a.2, enc_a_len] at HK
  rw [enc_a_len] at HD ⊢
  have HK := Lib.hid HK
  have HB2 := Lib.hid hb2
  have HA2 := Lib.hid hA2
  have HY2 : Hid (Below Y.heap.size Y w2) := hb2
  clear hO2 hA2 hb2 hc2 HC2 lp e36 b7 bl bp mk bz st1
  go_wp2_with fail
  refine HD.out.mono ?_
  rintro _ w3 ⟨A3, c3, rfl, hN3, hb3⟩
  obtain ⟨Z, hZ⟩ : ∃ Z, Z = w3.alloc (.cells (pfC pA (.slice A3 pA.sib.length c3)) 29) := ⟨_, rfl⟩
  have st2 := stPf_new w3 pA_ok zPf_ok A3 pA.sib.length c3 (.slice none 0 0)
  rw [← hZ] at st2
  have hbZ : Below w3.heap.size w3 Z := by rw [hZ]; exact Bt.one_below _ _
  have HYZ : Hid (Below Y.heap.size Y Z) := HY2.out.trans ((hb3.trans (hbZ.mono hb3.size)).mono HY2.out.size)
  have HQZ : Hid (PfAt Z w3.heap.size pA (.slice A3 pA.sib.length c3)) := by show PfAt _ _ _ _; rw [hZ]; exact PfAt.one _ _ _
  have HKZ := Lib.hid (HK.out Z (HA2.out.below (hb3.trans (hbZ.mono hb3.size))))
  clear hN3 hb3 hZ hbZ HD HK
  go_wp2_with fail
  refine HKZ.out.mono ?_
  rintro _ w4 ⟨rfl, hb4⟩
  have HY4 : Hid (Below Y.heap.size Y w4) := HYZ.out.trans (hb4.mono HYZ.out.size)
  have HQ4 : Hid (PfAt w4 w3.heap.size pA (.slice A3 pA.sib.length c3)) := HQZ.out.below hb4 HQZ.out.lt
  have HS4 := Lib.hid (same_yes A1 (some ⟨w1.heap.size, 0, none⟩) c1 36 36 w36 w4 rfl (HA1.out.below HY4.out) (HWY.out.below HY4.out) (by decide))
  clear hb4 HKZ st2
  go_wp2_with fail
  refine HS4.out.mono ?_
  rintro _ w5 ⟨rfl, hb5⟩
  have HY5 : Hid (Below Y.heap.size Y w5) := HY4.out.trans (hb5.mono HY4.out.size)
  have HQ5 : Hid (PfAt w5 w3.heap.size pA (.slice A3 pA.sib.length c3)) := HQ4.out.below hb5 HQ4.out.lt
  have lp5 := (HPY.out.below HY5.out HPY.out.lt).ld pA_ok
  have lq5 := HQ5.out.ld pA_ok
  have HE5 := requal_c pA pA pA_ok pA_ok none A3 0 c3 w5 (DS.nil _ _) (DS.nil _ _) (by decide) (by decide)
  rw [eqP_refl] at HE5
  have HE5 := Lib.hid HE5
  clear hb5 HS4
  go_wp2_with fail
  refine HE5.out.mono ?_
  rintro _ w6 ⟨rfl, hb6⟩
  have HY6 : Hid (Below Y.heap.size Y w6) := HY5.out.trans (hb6.mono HY5.out.size)
  have lp6 := (HPY.out.below HY6.out HPY.out.lt).ld pA_ok
  have HZ6 := co.size w6 pA none 0 pA_ok (DS.nil _ _) (Nat.le_refl _) (by decide)
  rw [show sizP pA = 100 by unfold sizP; rw [if_pos chk_a, enc_a_len]; rfl] at HZ6
  have HZ6 := Lib.hid HZ6
  clear hb6 HE5 lp5 lq5
  go_wp2_with fail
  refine HZ6.out.mono ?_
  rintro _ w7 ⟨rfl, hb7⟩
  have HB7 : Hid (Below w.heap.size w w7) := HBY.out.trans ((HY6.out.trans (hb7.mono HY6.out.size)).mono HBY.out.size)
  clear hb7 lp6
  go_wp2
  go_ret
  exact ⟨rfl, HB7.out⟩
end Go.Proofs.Ytbkokcfmndiedaa

/- The functions of CodecKinds, CodecEncodes, CodecDecodes, CodecIsCanonical return true, over contracts. -/
namespace Go.Proofs.Ytbkokcfmndiedaa
open Go.RowKit

theorem cell8 {A : Option Addr} {b : List UInt8} {W : World} (hA : BA W A b) (h : 0 < b.length) : ∃ g o, A = some ⟨g, o, none⟩ ∧ ∀ i, i < b.length → W.cell? ⟨g, o + i, none⟩ = some (.int .u8 (at8 b i : Int)) := by
  obtain ⟨g, o, e, _⟩ := hA 0 _ (List.getElem?_eq_getElem h)
  subst e
  refine ⟨g, o, rfl, fun i hi => ?_⟩
  obtain ⟨g', o', e, h⟩ := hA i _ (List.getElem?_eq_getElem hi)
  cases e
  rw [h]
  unfold at8
  rw [List.getD_eq_getElem?_getD, List.getElem?_eq_getElem hi]; rfl
set_option linter.unusedSimpArgs false in
set_option maxHeartbeats 8000000 in
set_option maxRecDepth 100000 in
theorem kinds17_w (co : CoV) (A : Option Addr) (c : Nat) (b : List UInt8) (W : World) (hA : BA W A b) (hc : b.length ≤ c) :
    Calls Try.prog 6 #[.slice A b.length c] W (Aye W) := by
  have HK := co.kind W b A c hA hc
  have HAL := Lib.hid (alive17_c co)
  by_cases h2 : b.length < 2
  · have d1 : decide ((b.length : Int) < 2) = true := decide_eq_true (by omega)
    rw [show kdV b = 0 by unfold kdV; rw [if_pos h2], show kdE b = 5 by unfold kdE; rw [if_pos h2]] at HK
    have HK := Lib.hid HK
    clear h2 hA hc
    go_enter Try.func6, Try.ntmps6
    go_wp2_with fail
    refine HK.out.mono ?_
    rintro _ w1 ⟨rfl, hb1⟩
    have HB1 := Lib.hid hb1
    clear hb1
    go_wp2_with fail
    refine (HAL.out w1).mono ?_
    rintro _ w2 ⟨rfl, hb2⟩
    have HB2 := Lib.hid (keeps HB1.out hb2)
    clear hb2
    go_wp2
    go_ret
    exact ⟨rfl, HB2.out⟩
  · have d1 : decide ((b.length : Int) < 2) = false := decide_eq_false (by omega)
    obtain ⟨g, o, rfl, hcell⟩ := cell8 hA (by omega)
    have c0 := fun w (h : Below W.heap.size W w) => show w.cell? ⟨g, o, none⟩ = some (.int .u8 (at8 b 0 : Int)) by rw [h.cell (p := ⟨g, o, none⟩) (lt_of_cell (hcell 0 (by omega)))]; exact hcell 0 (by omega)
    have c1 := fun w (h : Below W.heap.size W w) => show w.cell? ⟨g, o + 1, none⟩ = some (.int .u8 (at8 b 1 : Int)) by rw [h.cell (p := ⟨g, o + 1, none⟩) (lt_of_cell (hcell 1 (by omega)))]; exact hcell 1 (by omega)
    have HC0 := Lib.hid c0
    have HC1 := Lib.hid c1
    have j1 : (1 : Int) < (b.length : Int) := by omega
    have hl1 := at8_lt b 1
    clear c0 c1 hcell
    by_cases h0 : at8 b 0 = 1
    · rw [show kdV b = at8 b 1 by unfold kdV; rw [if_neg h2, if_neg (by omega)], show kdE b = 0 by unfold kdE; rw [if_neg h2, if_neg (by omega)]] at HK
      have HK := Lib.hid HK
      have HH0 := Lib.hid h0
      obtain ⟨x1, hx1⟩ : ∃ x, x = at8 b 1 := ⟨_, rfl⟩
      rw [← hx1] at HK HC1 hl1
      clear h2 hA hc h0 hx1
      go_enter Try.func6, Try.ntmps6
      go_wp2_with fail
      refine HK.out.mono ?_
      rintro _ w1 ⟨rfl, hb1⟩
      have HB1 := Lib.hid hb1
      have c0 : w1.cell? ⟨g, o, none⟩ = some (.int .u8 1) := by rw [HC0.out w1 hb1, HH0.out]; rfl
      clear hb1
      go_wp2_with fail
      refine (HAL.out w1).mono ?_
      rintro _ w2 ⟨rfl, hb2⟩
      have HB2 := Lib.hid (keeps HB1.out hb2)
      have c1 := HC1.out w2 HB2.out
      clear hb2 c0
      go_wp2
      go_ret
      exact ⟨rfl, HB2.out⟩
    · rw [show kdV b = 0 by unfold kdV; rw [if_neg h2, if_pos h0], show kdE b = 6 by unfold kdE; rw [if_neg h2, if_pos h0]] at HK
      have HK := Lib.hid HK
      have d2 : ¬ ((at8 b 0 : Int) = 1) := by omega
      clear h2 hA hc h0
      go_enter Try.func6, Try.ntmps6
      go_wp2_with fail
      refine HK.out.mono ?_
      rintro _ w1 ⟨rfl, hb1⟩
      have HB1 := Lib.hid hb1
      have c0 := HC0.out w1 hb1
      clear hb1
      go_wp2_with fail
      refine (HAL.out w1).mono ?_
      rintro _ w2 ⟨rfl, hb2⟩
      have HB2 := Lib.hid (keeps HB1.out hb2)
      clear hb2
      go_wp2
      go_ret
      exact ⟨rfl, HB2.out⟩
set_option linter.unusedSimpArgs false in
set_option maxHeartbeats 8000000 in
set_option maxRecDepth 100000 in
theorem encodes17_w (co : CoV) (p : Pf) (A : Option Addr) (c : Nat) (W : World) (hp : p.Ok) (hA : DS W A p.sib) (hc : p.sib.length ≤ c) :
    Calls Try.prog 3 #[.agg (pfC p (.slice A p.sib.length c))] W (Aye W) := by
  obtain ⟨X, hX⟩ : ∃ X, X = W.alloc (.cells (pfC p (.slice A p.sib.length c)) 29) := ⟨_, rfl⟩
  have hB : Below W.heap.size W X := by rw [hX]; exact Bt.one_below _ _
  have hP : PfAt X W.heap.size p (.slice A p.sib.length c) := by rw [hX]; exact PfAt.one _ _ _
  have HB := Lib.hid hB
  have hS := hP.sib hp
  rw [hX] at hS
  have HX := Lib.hid hX
  have HAL := Lib.hid (alive17_c co)
  by_cases h : 300 < p.sib.length
  · have d1 : decide ((300 : Int) < p.sib.length) = true := by simp; omega
    clear hB hP hp hA hX hc
    go_enter Try.func3, Try.ntmps3
    go_wp2_with fail
    rw [← HX.out]
    refine (HAL.out X).mono ?_
    rintro e w1 ⟨rfl, hb⟩
    have HB1 := Lib.hid (keeps HB.out hb)
    clear hb
    go_wp2
    go_ret
    exact ⟨rfl, HB1.out⟩
  · have d1 : decide ((300 : Int) < p.sib.length) = false := by simp; omega
    have lx := hP.ld hp
    rw [hX] at lx
    have LA := Lib.hid (fun x : Later X => (hP.below x.h hP.lt).ld hp)
    have HDS := Lib.hid (fun x : Later X => (hA.below hB).below x.h)
    have HL3 : Hid (p.sib.length ≤ 300) := by show _ ≤ _; omega
    have HPO := Lib.hid hp
    have HCC := Lib.hid hc
    obtain ⟨z, hz⟩ : ∃ z, z = chkP p := ⟨_, rfl⟩
    have HRC := fun w => rcheck_c p hp A c w
    rw [← hz] at HRC
    have HRC := Lib.hid HRC
    by_cases hz0 : z = 0
    · have hk := chkP_cases p
      have hg : (p.kind = 0 ∨ p.kind = 1) ∧ p.good := by
        rcases hk with ⟨h1, _⟩ | ⟨h1, ⟨h2, _⟩ | ⟨_, h2⟩⟩
        · omega
        · omega
        · exact ⟨h1, h2⟩
      have HG := Lib.hid hg
      have HE := Lib.hid (co.encode X p A c hp (hA.below hB) hc (by omega) (by omega))
      have HSZ := fun w (hd : DS w A p.sib) => co.size w p A c hp hd hc (by omega)
      rw [show sizP p = ((encP p).length : Int) by unfold sizP; rw [if_pos (by omega)]] at HSZ
      have HSZ := Lib.hid HSZ
      have HEL : Hid ((encP p).length ≤ 20000) := by show _ ≤ _; rw [encP_len hp]; split <;> omega
      obtain ⟨L, hL⟩ : ∃ L, L = encP p := ⟨_, rfl⟩
      have HLE := Lib.hid hL
      rw [← hL] at HE HSZ HEL
      subst hz0
      clear hB hP hp hA hX hc hz h hk hg hL
      go_enter Try.func3, Try.ntmps3
      go_wp2_with fail
      rw [← HX.out]
      refine HE.out.mono ?_
      rintro _ w1 ⟨v, rfl, hO, hb1⟩
      obtain ⟨A1, c1, rfl, hc1, hA1⟩ := hO.opened17
      have HB1 : Hid (Below X.heap.size X w1) := hb1
      have HA1 := Lib.hid hA1
      have l1 := LA.out ⟨w1, HB1.out⟩
      clear hO hA1 hb1 hc1 lx hS
      go_wp2_with fail
      refine (HRC.out w1).mono ?_
      rintro _ w2 ⟨rfl, hb2⟩
      have HB2 : Hid (Below X.heap.size X w2) := HB1.out.trans (hb2.mono HB1.out.size)
      have HA2 := Lib.hid (HA1.out.below hb2)
      clear hb2 l1
      go_wp2_with fail
      refine (HAL.out w2).mono ?_
      rintro _ w3 ⟨rfl, hb3⟩
      have HB3 : Hid (Below X.heap.size X w3) := HB2.out.trans (hb3.mono HB2.out.size)
      have HA3 := Lib.hid (HA2.out.below hb3)
      have l3 := LA.out ⟨w3, HB3.out⟩
      have HR3 := rencode_c p A c w3 HPO.out (HDS.out ⟨w3, HB3.out⟩) (by have := HL3.out; omega) HG.out.1 HG.out.2.1 HG.out.2.2.1
      rw [← HLE.out] at HR3
      have HR3 := Lib.hid HR3
      clear hb3
      go_wp2_with fail
      refine HR3.out.mono ?_
      rintro _ w4 ⟨v4, rfl, hO4, hb4⟩
      obtain ⟨A4, c4, rfl, hc4, hA4⟩ := hO4.opened17
      have HB4 : Hid (Below X.heap.size X w4) := HB3.out.trans (hb4.mono HB3.out.size)
      have HSM := Lib.hid (same_yes A1 A4 c1 c4 L.length L w4 rfl (HA3.out.below hb4) hA4 (by have := HEL.out; omega))
      clear hO4 hA4 hb4 hc4 l3 HR3
      go_wp2_with fail
      refine HSM.out.mono ?_
      rintro _ w5 ⟨rfl, hb5⟩
      have HB5 : Hid (Below X.heap.size X w5) := HB4.out.trans (hb5.mono HB4.out.size)
      have l5 := LA.out ⟨w5, HB5.out⟩
      have HS5 := Lib.hid (HSZ.out w5 (HDS.out ⟨w5, HB5.out⟩))
      clear hb5 HSM
      go_wp2_with fail
      refine HS5.out.mono ?_
      rintro _ w6 ⟨rfl, hb6⟩
      have HB6 : Hid (Below W.heap.size W w6) := HB.out.trans ((HB5.out.trans (hb6.mono HB5.out.size)).mono HB.out.size)
      clear hb6 l5 HS5
      go_wp2
      go_ret
      exact ⟨rfl, HB6.out⟩
    · have HE := co.encodeBad X p A c hp (hA.below hB) hc (by omega) (by omega)
      rw [← hz] at HE
      have HE := Lib.hid HE
      have HSZ := fun w (hd : DS w A p.sib) => co.size w p A c hp hd hc (by omega)
      rw [show sizP p = 0 by unfold sizP; rw [if_neg (by omega)]] at HSZ
      have HSZ := Lib.hid HSZ
      have zz : (z == z) = true := by simp
      clear hB hP hp hA hX hc hz h
      go_enter Try.func3, Try.ntmps3
      go_wp2_with fail
      rw [← HX.out]
      refine HE.out.mono ?_
      rintro _ w1 ⟨A1, c1, rfl, hb1⟩
      have HB1 : Hid (Below X.heap.size X w1) := hb1
      have l1 := LA.out ⟨w1, HB1.out⟩
      clear hb1 lx hS
      go_wp2_with fail
      refine (HRC.out w1).mono ?_
      rintro _ w2 ⟨rfl, hb2⟩
      have HB2 : Hid (Below X.heap.size X w2) := HB1.out.trans (hb2.mono HB1.out.size)
      clear hb2 l1
      go_wp2_with fail
      refine (HAL.out w2).mono ?_
      rintro _ w3 ⟨rfl, hb3⟩
      have HB3 : Hid (Below X.heap.size X w3) := HB2.out.trans (hb3.mono HB2.out.size)
      have l3 := LA.out ⟨w3, HB3.out⟩
      have HS3 := Lib.hid (HSZ.out w3 (HDS.out ⟨w3, HB3.out⟩))
      clear hb3
      go_wp2_with fail
      refine HS3.out.mono ?_
      rintro _ w4 ⟨rfl, hb4⟩
      have HB4 : Hid (Below W.heap.size W w4) := HB.out.trans ((HB3.out.trans (hb4.mono HB3.out.size)).mono HB.out.size)
      clear hb4 l3 HS3
      go_wp2
      go_ret
      exact ⟨rfl, HB4.out⟩
set_option linter.unusedSimpArgs false in
set_option maxHeartbeats 8000000 in
set_option maxRecDepth 100000 in
theorem decodes17_w (co : CoV) (A : Option Addr) (c : Nat) (b : List UInt8) (W : World) (hA : BA W A b) :
    Calls Try.prog 4 #[.slice A b.length c] W (Aye W) := by
  have HAL := Lib.hid (alive17_c co)
  by_cases h : 10000 < b.length
  · have d1 : decide ((10000 : Int) < b.length) = true := by simp; omega
    clear hA
    go_enter Try.func4, Try.ntmps4
    go_wp2_with fail
    refine (HAL.out W).mono ?_
    rintro e w1 ⟨rfl, hb⟩
    have HB1 := Lib.hid hb
    clear hb
    go_wp2
    go_ret
    exact ⟨rfl, HB1.out⟩
  · have d1 : decide ((10000 : Int) < b.length) = false := by simp; omega
    have hlen : b.length ≤ 10000 := by omega
    have HC := Lib.hid (clone_c A b c W hA (by omega))
    have HA := Lib.hid hA
    have HLN := Lib.hid hlen
    obtain ⟨z, hz⟩ : ∃ z, z = decE b := ⟨_, rfl⟩
    obtain ⟨q, hq⟩ : ∃ q, q = decQ b := ⟨_, rfl⟩
    have HQO : Hid q.Ok := by show Pf.Ok _; rw [hq]; exact decQ_ok b
    have HQL : Hid (q.sib.length ≤ 1000000) := by
      show _ ≤ _
      rw [hq]
      by_cases e : decE b = 0
      · rw [decQ_raw e]
        show (chunks _ _).length ≤ _
        rw [chunks_len]; omega
      · rw [decQ_bad e]; exact Nat.zero_le _
    have HDC := fun w A c (h : BA w A b) (hc : b.length ≤ c) => co.decode w b A c h hc (by omega)
    have HRD := fun w (h : BA w A b) => rdecode_c b A c w h (by omega)
    rw [← hz, ← hq] at HDC HRD
    have HDC := Lib.hid HDC
    have HRD := Lib.hid HRD
    have zz : (z == z) = true := by simp
    clear hA hz hq h hlen
    go_enter Try.func4, Try.ntmps4
    go_wp2_with fail
    refine HC.out.mono ?_
    rintro _ w1 ⟨v1, rfl, ⟨A1, c1, rfl, hc1, hA1⟩, hb1⟩
    have HB1 := Lib.hid hb1
    have HA1 := Lib.hid hA1
    have HD1 := Lib.hid (HDC.out w1 A1 c1 hA1 hc1)
    clear hb1 hA1 hc1 HC
    go_wp2_with fail
    refine HD1.out.mono ?_
    rintro _ w2 ⟨A2, c2, rfl, hN2, hb2⟩
    obtain ⟨Y, hY⟩ : ∃ Y, Y = w2.alloc (.cells (pfC q (.slice A2 q.sib.length c2)) 29) := ⟨_, rfl⟩
    have st2 := stPf_new w2 HQO.out zPf_ok A2 q.sib.length c2 (.slice none 0 0)
    rw [← hY] at st2
    have hbY : Below w2.heap.size w2 Y := by rw [hY]; exact Bt.one_below _ _
    have hPY : PfAt Y w2.heap.size q (.slice A2 q.sib.length c2) := by rw [hY]; exact PfAt.one _ _ _
    have HBY : Hid (Below W.heap.size W Y) := HB1.out.trans ((hb2.trans (hbY.mono hb2.size)).mono HB1.out.size)
    have HAY := Lib.hid (HA1.out.below (hb2.trans (hbY.mono hb2.size)))
    have HDY := Lib.hid ((hN2.ds HQO.out.sib).below hbY)
    have HPY := Lib.hid hPY
    have HRY := Lib.hid (HRD.out Y (HA.out.below HBY.out))
    clear hN2 hb2 hbY hPY hY HD1 HA1
    go_wp2_with fail
    refine HRY.out.mono ?_
    rintro _ w3 ⟨A3, c3, rfl, hD3, hc3, hb3⟩
    obtain ⟨Z, hZ⟩ : ∃ Z, Z = w3.alloc (.cells (pfC q (.slice A3 q.sib.length c3)) 29) := ⟨_, rfl⟩
    have st3 := stPf_new w3 HQO.out zPf_ok A3 q.sib.length c3 (.slice none 0 0)
    rw [← hZ] at st3
    have hbZ : Below w3.heap.size w3 Z := by rw [hZ]; exact Bt.one_below _ _
    have HYZ : Hid (Below Y.heap.size Y Z) := hb3.trans (hbZ.mono hb3.size)
    have HDZ := Lib.hid (hD3.below hbZ)
    have HPZ : Hid (PfAt Z w3.heap.size q (.slice A3 q.sib.length c3)) := by show PfAt _ _ _ _; rw [hZ]; exact PfAt.one _ _ _
    clear hD3 hc3 hb3 hbZ hZ HRY st2
    go_wp2_with fail
    refine (HAL.out Z).mono ?_
    rintro _ w4 ⟨rfl, hb4⟩
    have HY4 : Hid (Below Y.heap.size Y w4) := HYZ.out.trans (hb4.mono HYZ.out.size)
    have lp4 := (HPY.out.below HY4.out HPY.out.lt).ld HQO.out
    have lq4 := (HPZ.out.below hb4 HPZ.out.lt).ld HQO.out
    have HE4 := requal_c q q HQO.out HQO.out A2 A3 c2 c3 w4 (HDY.out.below HY4.out) (HDZ.out.below hb4) HQL.out HQL.out
    rw [eqP_refl] at HE4
    have HE4 := Lib.hid HE4
    clear hb4 st3
    go_wp2_with fail
    refine HE4.out.mono ?_
    rintro _ w5 ⟨rfl, hb5⟩
    have HY5 : Hid (Below Y.heap.size Y w5) := HY4.out.trans (hb5.mono HY4.out.size)
    have HSM := Lib.hid (same_yes A A1 c c1 b.length b w5 rfl (HA.out.below (HBY.out.trans (HY5.out.mono HBY.out.size))) (HAY.out.below HY5.out) (by have := HLN.out; omega))
    clear hb5 HE4 lp4 lq4
    go_wp2_with fail
    refine HSM.out.mono ?_
    rintro _ w6 ⟨rfl, hb6⟩
    have HB6 : Hid (Below W.heap.size W w6) := HBY.out.trans ((HY5.out.trans (hb6.mono HY5.out.size)).mono HBY.out.size)
    clear hb6
    go_wp2
    go_ret
    exact ⟨rfl, HB6.out⟩
set_option linter.unusedSimpArgs false in
set_option maxHeartbeats 8000000 in
set_option maxRecDepth 100000 in
theorem canon17_w (co : CoV) (A : Option Addr) (c : Nat) (b : List UInt8) (W : World) (hA : BA W A b) (hc : b.length ≤ c) :
    Calls Try.prog 5 #[.slice A b.length c] W (Aye W) := by
  have HAL := Lib.hid (alive17_c co)
  by_cases h : 10000 < b.length
  · have d1 : decide ((10000 : Int) < b.length) = true := by simp; omega
    clear hA hc
    go_enter Try.func5, Try.ntmps5
    go_wp2_with fail
    refine (HAL.out W).mono ?_
    rintro e w1 ⟨rfl, hb⟩
    have HB1 := Lib.hid hb
    clear hb
    go_wp2
    go_ret
    exact ⟨rfl, HB1.out⟩
  · have d1 : decide ((10000 : Int) < b.length) = false := by simp; omega
    have HA := Lib.hid hA
    have HLN : Hid (b.length ≤ 10000) := by show _ ≤ _; omega
    have HD := co.decode W b A c hA hc (by omega)
    by_cases h0 : decE b = 0
    · have hq0 : chkP (decQ b) = 0 := by rw [decQ_raw h0]; exact (decE_ok h0).2.2.2.2.2
      have hen := enc_dec h0
      have hqo := decQ_ok b
      have hql : (decQ b).sib.length ≤ 1000000 := by
        rw [decQ_raw h0]
        show (chunks _ _).length ≤ _
        rw [chunks_len]; omega
      rw [h0] at HD
      obtain ⟨q, hq⟩ : ∃ q, q = decQ b := ⟨_, rfl⟩
      rw [← hq] at HD hq0 hen hqo hql
      have HD := Lib.hid HD
      have HQ0 := Lib.hid hq0
      have HEN := Lib.hid hen
      have HQO := Lib.hid hqo
      have HQL := Lib.hid hql
      clear hA hc h h0 hq hq0 hen hqo hql
      go_enter Try.func5, Try.ntmps5
      go_wp2_with fail
      refine HD.out.mono ?_
      rintro _ w2 ⟨A2, c2, rfl, hN2, hb2⟩
      obtain ⟨Y, hY⟩ : ∃ Y, Y = w2.alloc (.cells (pfC q (.slice A2 q.sib.length c2)) 29) := ⟨_, rfl⟩
      have st2 := stPf_new w2 HQO.out zPf_ok A2 q.sib.length c2 (.slice none 0 0)
      rw [← hY] at st2
      have hbY : Below w2.heap.size w2 Y := by rw [hY]; exact Bt.one_below _ _
      have hPY : PfAt Y w2.heap.size q (.slice A2 q.sib.length c2) := by rw [hY]; exact PfAt.one _ _ _
      have lpY := hPY.ld HQO.out
      have HBY : Hid (Below W.heap.size W Y) := hb2.trans (hbY.mono hb2.size)
      have HEY := Lib.hid (co.encode Y q A2 c2 HQO.out ((hN2.ds HQO.out.sib).below hbY) hN2.1 HQL.out HQ0.out)
      rw [HEN.out] at HEY
      clear hN2 hb2 hbY hPY hY HD
      go_wp2_with fail
      refine HEY.out.mono ?_
      rintro _ w3 ⟨v3, rfl, hO3, hb3⟩
      obtain ⟨A3, c3, rfl, hc3, hA3⟩ := hO3.opened17
      have HB3 : Hid (Below W.heap.size W w3) := HBY.out.trans (hb3.mono HBY.out.size)
      have HA3 := Lib.hid hA3
      clear hO3 hb3 hc3 hA3 HEY st2 lpY
      go_wp2_with fail
      refine (HAL.out w3).mono ?_
      rintro _ w4 ⟨rfl, hb4⟩
      have HB4 : Hid (Below W.heap.size W w4) := HB3.out.trans (hb4.mono HB3.out.size)
      have HSM := Lib.hid (same_yes A A3 c c3 b.length b w4 rfl (HA.out.below HB4.out) (HA3.out.below hb4) (by have := HLN.out; omega))
      clear hb4
      go_wp2_with fail
      refine HSM.out.mono ?_
      rintro _ w5 ⟨rfl, hb5⟩
      have HB5 : Hid (Below W.heap.size W w5) := HB4.out.trans (hb5.mono HB4.out.size)
      clear hb5
      go_wp2
      go_ret
      exact ⟨rfl, HB5.out⟩
    · rw [decQ_bad h0] at HD
      obtain ⟨z, hz⟩ : ∃ z, z = decE b := ⟨_, rfl⟩
      rw [← hz] at HD h0
      have HD := Lib.hid HD
      have bz := bldPf_none17
      clear hA hc h hz
      go_enter Try.func5, Try.ntmps5
      go_wp2_with fail
      refine HD.out.mono ?_
      rintro _ w2 ⟨A2, c2, rfl, hN2, hb2⟩
      obtain ⟨Y, hY⟩ : ∃ Y, Y = w2.alloc (.cells (pfC zPf (.slice A2 zPf.sib.length c2)) 29) := ⟨_, rfl⟩
      have st2 := stPf_new w2 zPf_ok zPf_ok A2 zPf.sib.length c2 (.slice none 0 0)
      rw [← hY] at st2
      have hbY : Below w2.heap.size w2 Y := by rw [hY]; exact Bt.one_below _ _
      have HPY : Hid (PfAt Y w2.heap.size zPf (.slice A2 zPf.sib.length c2)) := by show PfAt _ _ _ _; rw [hY]; exact PfAt.one _ _ _
      have HBY : Hid (Below W.heap.size W Y) := hb2.trans (hbY.mono hb2.size)
      clear hN2 hb2 hbY hY HD
      go_wp2_with fail
      refine (HAL.out Y).mono ?_
      rintro _ w3 ⟨rfl, hb3⟩
      have HB3 : Hid (Below W.heap.size W w3) := HBY.out.trans (hb3.mono HBY.out.size)
      have lp3 := (HPY.out.below hb3 HPY.out.lt).ld zPf_ok
      have HE3 := requal_c zPf zPf zPf_ok zPf_ok A2 none c2 0 w3 (DS.nil _ _) (DS.nil _ _) (by decide) (by decide)
      rw [eqP_refl] at HE3
      have HE3 := Lib.hid HE3
      clear hb3 st2
      go_wp2_with fail
      refine HE3.out.mono ?_
      rintro _ w4 ⟨rfl, hb4⟩
      have HB4 : Hid (Below W.heap.size W w4) := HB3.out.trans (hb4.mono HB3.out.size)
      clear hb4
      go_wp2
      go_ret
      exact ⟨rfl, HB4.out⟩
end Go.Proofs.Ytbkokcfmndiedaa
