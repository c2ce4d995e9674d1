/- The function of CodecIsShort returns true, over contracts. -/
import Derived.Test.YtbkokcfmndiedaaGreatDoorVE
import Derived.Test.YtbkokcfmndiedaaGreatDoorAm
import Derived.Test.YtbkokcfmndiedaaGreatDoorMM
import Derived.Test.YtbkokcfmndiedaaGreatDoorMT
import Derived.Test.YtbkokcfmndiedaaGreatDoorMO
namespace Go.Proofs.YtbkokcfmndiedaaGreatDoor
open Go.RowKit

set_option linter.unusedSimpArgs false in
set_option maxHeartbeats 16000000 in
set_option maxRecDepth 100000 in
theorem short17_in {M : World → Int → Tv → Prop} (nd : NdV M) (pf : PfV M) (co : CoV) (n : Int) (A : Option Addr) (c : Nat) (es : List En) (k : List UInt8) (hk : k.length = 32) (W : World) (hA : EA W A es) (hl : es.length ≤ 12) (hvl : ∀ e ∈ es, e.v.length ≤ 1000) (hf : fewK (es.map En.ent) = true) (hvx : Vars W) (h0 : 0 ≤ n) (h1 : n ≤ 256) :
    Calls Tryz.prog 3 #[.int .i64 n, .slice A es.length c, .agg (bA k)] W (Aye W) := by
  obtain ⟨X, hX⟩ : ∃ X, X = W.alloc (.cells (bA k) 24) := ⟨_, rfl⟩
  have hb0 : Below W.heap.size W X := by rw [hX]; exact Bt.one_below _ _
  have HR0 : Hid (RowB X W.heap.size 24 k) := by show RowB _ _ _ _; rw [hX]; exact RowB.alloc W k _
  have HX := Lib.hid hX
  have HB0 := Lib.hid hb0
  have HT := Lib.hid (tree_in nd n A c es X (hA.below hb0) hl hvl hf (hvx.below hb0) h0 h1)
  have HVE : Hid (∀ e ∈ ofE es, e.v.length ≤ 1000) := fun e he => hvl e (ofE_mem he)
  have HLE : Hid ((ofE es).length ≤ 100000) := Nat.le_trans (ofE_len es) (Nat.le_trans hl (by decide))
  have HN := Lib.hid (And.intro h0 h1)
  have HKK := Lib.hid hk
  have LK : Hid (∀ w', Below X.heap.size X w' → ldA 24 w' (.pointer (some ⟨W.heap.size, 0, none⟩)) = .ok (.value (.agg (bA k))) w') := fun w' h => (HR0.out.below h).ldKey hk
  clear hA hvl hf hvx hX hb0 h0 h1 hk hl
  go_enter Tryz.func3, Tryz.ntmps3
  go_wp2_with fail
  rw [← HX.out]
  clear HX
  refine HT.out.mono ?_
  rintro _ w2 ⟨A2, c2, T, rfl, hc2, hI, hF⟩
  have HI := Lib.hid hI
  have HF2 := Lib.hid hF
  obtain ⟨O, hO⟩ : ∃ O, O = ofE es := ⟨_, rfl⟩
  rw [← hO] at HI HF2 HVE HLE ⊢
  clear hc2 hI hF HT hO
  have HHI := Lib.hid (hash_in n w2 HN.out.1 HN.out.2)
  go_wp2_with fail
  refine HHI.out.mono ?_
  rintro _ w3 ⟨b, rfl, hbn, hH, hB⟩
  have HF3 := Lib.hid (HF2.out.below nd hB)
  have HH3 := Lib.hid hH
  have HXB : Hid (X.heap.size ≤ b) := Nat.le_trans HF2.out.bel.size hbn
  have HB3 : Hid (Below X.heap.size X w3) := HF3.out.bel
  have lk := LK.out w3 HB3.out
  have HRP := Lib.hid (rprove_c n A2 c2 O k w3 HF3.out.ea HLE.out HVE.out HKK.out HI.out.sep)
  clear hbn hH hB HHI HF2
  go_wp2_with fail
  refine HRP.out.mono ?_
  rintro _ w4 ⟨D, A4, c4, rfl, hD4, hj, h1D, hD, hb4⟩
  have hTD : T.dep k 0 = D := dep_eq HI.out.sep (HI.out.at k) hj h1D
  have hck : chkP (prK n (O.map En.ent) k D) = 0 := prK_good hD hj h1D
  have hpo : (prK n (O.map En.ent) k D).Ok := prK_ok HI.out.sep k
  obtain ⟨K, hK, hK1⟩ : ∃ K : Nat, (prK n (O.map En.ent) k D).kind = (K : Int) ∧ K ≤ 1 := by
    rcases kindO_01 (dK (O.map En.ent) k D) with h | h
    · exact ⟨0, h, by omega⟩
    · exact ⟨1, h, by omega⟩
  have HPV := pf.prove
  obtain ⟨Y, hY⟩ : ∃ Y, Y = w4.alloc (.cells (pfC (prK n (O.map En.ent) k D) (.slice A4 (prK n (O.map En.ent) k D).sib.length c4)) 36) := ⟨_, rfl⟩
  have st4 := stPf_new w4 hpo zPf_ok A4 (prK n (O.map En.ent) k D).sib.length c4 (.slice none 0 0)
  rw [← hY] at st4
  have hbY : Below w4.heap.size w4 Y := by rw [hY]; exact Bt.one_below _ _
  have hb3Y : Below w3.heap.size w3 Y := hb4.trans (hbY.mono hb4.size)
  have hFY := HF3.out.below nd hb3Y
  have hHY : Hs Y b n 0 := HH3.out.keep (Keep.of_below (L := fun _ => False) hb3Y) id
  have HBY : Hid (Below X.heap.size X Y) := HB3.out.trans (hb3Y.mono HB3.out.size)
  have hPY : PfAt Y w4.heap.size (prK n (O.map En.ent) k D) (.slice A4 (prK n (O.map En.ent) k D).sib.length c4) := by rw [hY]; exact PfAt.one _ _ _
  have HPV := pf.prove Y b n 0 (O.map En.ent) T k hHY (by omega) hFY.vars hFY.ms HI.out HKK.out
  rw [hTD] at HPV
  have hlen := encP_len hpo
  have hgd : (Bt.setZ (keyF (prK n (O.map En.ent) k D).bm) 256).length = (prK n (O.map En.ent) k D).sib.length := by
    rcases chkP_cases (prK n (O.map En.ent) k D) with ⟨h1, _⟩ | ⟨_, ⟨h1, _⟩ | ⟨_, h2⟩⟩
    · omega
    · omega
    · exact h2.2.2.2.1
  have hsz : (prK n (O.map En.ent) k D).sib.length ≤ 256 := by
    rw [← hgd]
    exact setZ_le17 _ 256
  obtain ⟨p, hp⟩ : ∃ p, p = prK n (O.map En.ent) k D := ⟨_, rfl⟩
  rw [← hp] at hck hpo hK st4 hPY HPV hlen hgd hsz ⊢
  have hbw4 : b ≠ w4.heap.size := by have h1 := lt_of_heap HH3.out; have h2 := hb4.size; omega
  have hln2 : (encP p).length = 36 + 64 * K + 32 * p.sib.length := by
    rw [hlen, hK]
    rcases (show K = 0 ∨ K = 1 by omega) with rfl | rfl <;> rfl
  have HPY := Lib.hid hPY
  have HPV := Lib.hid HPV
  have HPO := Lib.hid hpo
  have HCK := Lib.hid hck
  have HKE := Lib.hid hK
  have HGD := Lib.hid hgd
  have HSZ := Lib.hid hsz
  have HLN := Lib.hid hln2
  have HBW := Lib.hid hbw4
  have HK1 := Lib.hid hK1
  have lkY := LK.out Y HBY.out
  clear hD4 hj h1D hD hb4 hTD hck hpo hK hY hbY hb3Y hFY hHY hPY hlen hgd hsz hp hbw4 hln2 hK1 HRP lk
  go_wp2_with fail
  refine HPV.out.mono ?_
  rintro _ w5 ⟨A5, c5, m5, rfl, hN5, _, _, hk5⟩
  have HB5 : Hid (Below X.heap.size X w5) := keep_new HBY.out HXB.out hk5
  have HP5 : Hid (PfAt w5 w4.heap.size p (.slice A4 p.sib.length c4)) := HPY.out.keep hk5 (fun h => HBW.out h.symm)
  have HE5 := Lib.hid (co.encode w5 p A5 c5 HPO.out (hN5.ds HPO.out.sib) hN5.1 (by have := HSZ.out; omega) HCK.out)
  clear hN5 hk5 HPV st4 lkY
  go_wp2_with fail
  refine HE5.out.mono ?_
  rintro _ w6 ⟨v6, rfl, hO6, hb6⟩
  obtain ⟨A6, c6, rfl, _, _⟩ := hO6.opened17
  have HB6 : Hid (Below X.heap.size X w6) := HB5.out.trans (hb6.mono HB5.out.size)
  have HP6 : Hid (PfAt w6 w4.heap.size p (.slice A4 p.sib.length c4)) := HP5.out.below hb6 HP5.out.lt
  have HAL := Lib.hid (alive17_c co w6)
  clear hO6 hb6 HE5
  go_wp2_with fail
  refine HAL.out.mono ?_
  rintro _ w7 ⟨rfl, hb7⟩
  have HB7 : Hid (Below X.heap.size X w7) := HB6.out.trans (hb7.mono HB6.out.size)
  have hP7 : PfAt w7 w4.heap.size p (.slice A4 p.sib.length c4) := HP6.out.below hb7 HP6.out.lt
  have k7 := hP7.kind
  rw [HKE.out] at k7
  have s7 := hP7.sib HPO.out
  have l7 := hP7.ld HPO.out
  have HDP := Lib.hid (rdepths_c p HPO.out (.slice A4 p.sib.length c4) w7)
  have HP7 := Lib.hid hP7
  obtain ⟨S, hS⟩ : ∃ S, S = p.sib.length := ⟨_, rfl⟩
  obtain ⟨L, hL⟩ : ∃ L, L = (encP p).length := ⟨_, rfl⟩
  have hLS : L = 36 + 64 * K + 32 * S := by rw [hL, HLN.out, hS]
  have hS2 : S ≤ 256 := by rw [hS]; exact HSZ.out
  have HSE := Lib.hid hS
  have hK1 := HK1.out
  rw [← hL]
  rw [← hS] at s7
  have v1 : IntKind.i64.wrap (64 * (K : Int)) = 64 * (K : Int) := wrap17 (by omega) (by omega)
  have v2 : IntKind.i64.wrap (36 + 64 * (K : Int)) = 36 + 64 * (K : Int) := wrap17 (by omega) (by omega)
  have v3 : IntKind.i64.wrap (32 * (S : Int)) = 32 * (S : Int) := wrap17 (by omega) (by omega)
  have v4 : IntKind.i64.wrap (36 + 64 * (K : Int) + 32 * (S : Int)) = 36 + 64 * (K : Int) + 32 * (S : Int) := wrap17 (by omega) (by omega)
  have v5 : IntKind.i64.wrap (100 + 32 * (S : Int)) = 100 + 32 * (S : Int) := wrap17 (by omega) (by omega)
  have e1 : ((L : Int) = 36 + 64 * (K : Int) + 32 * (S : Int)) := by omega
  have HLS := Lib.hid hLS
  have HS2 := Lib.hid hS2
  clear hb7 hP7 HAL hS hL hLS hS2
  go_wp2_with fail
  refine HDP.out.mono ?_
  rintro _ w8 ⟨v8, rfl, hZ8, hb8⟩
  obtain ⟨A8, c8, rfl, _⟩ := hZ8.is
  rw [HGD.out, ← HSE.out]
  have HB8 : Hid (Below X.heap.size X w8) := HB7.out.trans (hb8.mono HB7.out.size)
  have hLS := HLS.out
  have hS2 := HS2.out
  have d9 : decide ((L : Int) ≤ 100 + 32 * (S : Int)) = true := decide_eq_true (by omega)
  have d9' : decide (36 + 64 * (K : Int) ≤ 100) = true := decide_eq_true (by omega)
  clear hZ8 hb8 hLS hS2 k7 s7 l7
  go_wp2
  go_ret
  exact ⟨rfl, keeps HB0.out HB8.out⟩
set_option maxHeartbeats 8000000 in
set_option maxRecDepth 100000 in
theorem short17_out (co : CoV) (n : Int) (A : Option Addr) (c : Nat) (es : List En) (k : List UInt8) (W : World) (hA : EA W A es) (h : (n < 0 ∨ 256 < n) ∨ fewK (es.map En.ent) = false) :
    Calls Tryz.prog 3 #[.int .i64 n, .slice A es.length c, .agg (bA k)] W (Aye W) := by
  obtain ⟨X, hX⟩ : ∃ X, X = W.alloc (.cells (bA k) 24) := ⟨_, rfl⟩
  have hb0 : Below W.heap.size W X := by rw [hX]; exact Bt.one_below _ _
  have HX := Lib.hid hX
  have HB0 := Lib.hid hb0
  have HT := Lib.hid (tree_out n A c es X (hA.below hb0) h)
  have HAL := Lib.hid (alive17_c co)
  clear hA h hX hb0
  go_enter Tryz.func3, Tryz.ntmps3
  go_wp2_with fail
  rw [← HX.out]
  clear HX
  refine HT.out.mono ?_
  rintro _ w2 ⟨rfl, hB⟩
  have HB := Lib.hid hB
  clear hB HT
  go_wp2_with fail
  refine (hash_any n w2).mono ?_
  rintro _ w3 ⟨q, rfl, hB3⟩
  have HB3 := Lib.hid (keeps HB.out hB3)
  clear hB3
  go_wp2_with fail
  refine (HAL.out w3).mono ?_
  rintro _ w4 ⟨rfl, hB4⟩
  have HB4 := Lib.hid (keeps HB3.out hB4)
  clear hB4
  go_wp2_with fail
  go_ret
  exact ⟨rfl, keeps HB0.out HB4.out⟩
theorem short17_w {M : World → Int → Tv → Prop} (nd : NdV M) (pf : PfV M) (co : CoV) (n : Int) (A : Option Addr) (c : Nat) (es : List En) (k : List UInt8) (hk : k.length = 32) (W : World) (hA : EA W A es) (hvx : Vars W) :
    Calls Tryz.prog 3 #[.int .i64 n, .slice A es.length c, .agg (bA k)] W (Aye W) := by
  rcases Classical.em ((n < 0 ∨ 256 < n) ∨ fewK (es.map En.ent) = false) with h | h
  · exact short17_out co n A c es k W hA h
  · have hf : fewK (es.map En.ent) = true := by
      cases hq : fewK (es.map En.ent) with
      | true => rfl
      | false => exact absurd (.inr hq) h
    have hl := few_len hf
    rw [List.length_map] at hl
    exact short17_in nd pf co n A c es k hk W hA hl (fun e he => Nat.le_trans (few_val hf e.ent (List.mem_map.2 ⟨e, he, rfl⟩)) (by decide)) hf hvx (by omega) (by omega)
end Go.Proofs.YtbkokcfmndiedaaGreatDoor
