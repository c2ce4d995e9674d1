/- The function of FoldPreimages returns true, over contracts (by program: gen-tpl16-laws.py). -/
import Derived.BigQuiet
import Derived.Test.YtnmbbfndboohjaaDoorCg
namespace Go.Proofs.YtnmbbfndboohjaaDoor
open Go.RowKit

set_option linter.unusedSimpArgs false in
set_option maxHeartbeats 16000000 in
set_option maxRecDepth 100000 in
theorem foldpreimages16_out (fo : FoV) (n : Int) (p : Pf) (A : Option Addr) (c : Nat) (k : List UInt8) (W : World) (hp : p.Ok) (hvx : Vars W) (h : 300 < p.sib.length ∨ n < 0 ∨ 256 < n) :
    Calls Tryd.prog 5 #[.int .i64 n, .agg (pfC p (.slice A p.sib.length c)), .agg (bA k)] W (Aye W) := by
  obtain ⟨X, hX⟩ : ∃ X, X = (W.alloc (.cells (pfC p (.slice A p.sib.length c)) 29)).alloc (.cells (bA k) 23) := ⟨_, rfl⟩
  have hB : Below W.heap.size W X := by rw [hX]; exact Bt.two_below _ _ _
  have hP : PfAt X W.heap.size p (.slice A p.sib.length c) := by rw [hX]; exact (PfAt.one W p _).below (Bt.one_below _ _) (by simp)
  have hKR : RowB X (W.heap.size + 1) 23 k := by rw [hX]; exact heap_alloc2_new W _ _
  have hS := hP.sib hp
  have HB := Lib.hid hB
  have HVX := Lib.hid (hvx.below hB)
  have HX := Lib.hid hX
  by_cases h1 : n < 0 ∨ 256 < n
  · have HR : Hid (∀ w, Calls Tryd.prog 8 #[.int .i64 n] w fun e w' => e = .returned (.bool false) ∧ w = w') := fun w => by
      have := right5_c n w
      rwa [decide_eq_false (by omega)] at this
    clear hB hX hp h h1 hvx hP hKR hS
    go_enter Tryd.func5, Tryd.ntmps5
    go_wp2_with fail
    rw [← HX.out]
    refine (HR.out X).mono ?_
    rintro _ _ ⟨rfl, rfl⟩
    go_wp2_with fail
    refine (alive16_c fo _ HVX.out).mono ?_
    rintro e w1 ⟨rfl, hb⟩
    have HB1 := Lib.hid (keeps HB.out hb)
    clear hb
    go_wp2
    go_ret
    exact ⟨rfl, HB1.out⟩
  · have d1 : decide ((300 : Int) < p.sib.length) = true := by simp; omega
    have HR : Hid (∀ w, Calls Tryd.prog 8 #[.int .i64 n] w fun e w' => e = .returned (.bool true) ∧ w = w') := fun w => by
      have := right5_c n w
      rwa [decide_eq_true (by omega)] at this
    clear hB hX hp h h1 hvx hP hKR
    go_enter Tryd.func5, Tryd.ntmps5
    go_wp2_with fail
    rw [← HX.out]
    refine (HR.out X).mono ?_
    rintro _ _ ⟨rfl, rfl⟩
    go_wp2_with fail
    refine (alive16_c fo _ HVX.out).mono ?_
    rintro e w1 ⟨rfl, hb⟩
    have HB1 := Lib.hid (keeps HB.out hb)
    clear hb hS
    go_wp2
    go_ret
    exact ⟨rfl, HB1.out⟩
set_option linter.unusedSimpArgs false in
set_option maxHeartbeats 16000000 in
set_option maxRecDepth 100000 in
theorem foldpreimages16_in (fo : FoV) (n : Int) (p : Pf) (A : Option Addr) (c : Nat) (k : List UInt8) (W : World) (hp : p.Ok) (hA : DS W A p.sib) (hc : p.sib.length ≤ c) (hk : k.length = 32) (hvx : Vars W) (hl : p.sib.length ≤ 300) (h0 : 0 ≤ n) (h1 : n ≤ 256) :
    Calls Tryd.prog 5 #[.int .i64 n, .agg (pfC p (.slice A p.sib.length c)), .agg (bA k)] W (Aye W) := by
  obtain ⟨X, hX⟩ : ∃ X, X = (W.alloc (.cells (pfC p (.slice A p.sib.length c)) 29)).alloc (.cells (bA k) 23) := ⟨_, rfl⟩
  have hB : Below W.heap.size W X := by rw [hX]; exact Bt.two_below _ _ _
  have hP : PfAt X W.heap.size p (.slice A p.sib.length c) := by rw [hX]; exact (PfAt.one W p _).below (Bt.one_below _ _) (by simp)
  have hKR : RowB X (W.heap.size + 1) 23 k := by rw [hX]; exact heap_alloc2_new W _ _
  have hS := hP.sib hp
  have HB := Lib.hid hB
  have HVX := Lib.hid (hvx.below hB)
  have HX := Lib.hid hX
  have HPX := Lib.hid hP
  have HKX := Lib.hid hKR
  have HAX := Lib.hid (hA.below hB)
  have HP := Lib.hid hp
  have HC := Lib.hid hc
  have HK := Lib.hid hk
  have d1 : decide ((300 : Int) < p.sib.length) = false := by simp; omega
  have HR : Hid (∀ w, Calls Tryd.prog 8 #[.int .i64 n] w fun e w' => e = .returned (.bool true) ∧ w = w') := fun w => by
    have := right5_c n w
    rwa [decide_eq_true ⟨h0, h1⟩] at this
  have HH := Lib.hid (hash_in n X h0 h1)
  have HL := Lib.hid hl
  obtain ⟨z, hz⟩ : ∃ z, z = chkP p := ⟨_, rfl⟩
  have HRC : Hid (∀ w, Calls Tryd.prog 17 #[.agg (pfC p (.slice A p.sib.length c))] w fun e w' => e = .returned (.int .i64 z) ∧ Below w.heap.size w w') := fun w => by rw [hz]; exact rcheck_c p hp A c _
  have HZ := Lib.hid hz
  clear hB hX hp hP hA hc hl h0 h1 hk hKR hz hvx
  go_enter Tryd.func5, Tryd.ntmps5
  go_wp2_with fail
  rw [← HX.out]
  refine (HR.out X).mono ?_
  rintro _ _ ⟨rfl, rfl⟩
  go_wp2_with fail
  refine HH.out.mono ?_
  rintro _ w1 ⟨b, rfl, hb, hH, hB1⟩
  have HB1 := Lib.hid (keeps HB.out hB1)
  have HV1 := Lib.hid (HVX.out.below hB1)
  have HP1 := Lib.hid (HPX.out.below hB1 HPX.out.lt)
  have HK1 := Lib.hid (HKX.out.below hB1)
  have HA1 := Lib.hid (HAX.out.below hB1)
  have HH1 := Lib.hid hH
  have HNB : Hid (W.heap.size + 1 < b) := Nat.lt_of_lt_of_le (lt_of_heap HKX.out) hb
  have HWN : Hid (W.heap.size ≤ b) := by have := HNB.out; show _ ≤ _; omega
  have lp := HP1.out.ld HP.out
  have lk := HK1.out.ldKey HK.out
  clear hb hH hB1 HH hS
  by_cases h7 : chkP p = 0
  · skip
    have HGD : Hid p.good := by
      rcases chkP_cases p with ⟨e, _⟩ | ⟨_, ⟨e, _⟩ | ⟨_, g⟩⟩
      · rw [h7] at e; exact absurd e (by decide)
      · rw [h7] at e; exact absurd e (by decide)
      · exact g
    have HKI : Hid (p.kind = 0 ∨ p.kind = 1) := by
      rcases chkP_cases p with ⟨e, _⟩ | ⟨g, _⟩
      · rw [h7] at e; exact absurd e (by decide)
      · exact g
    obtain ⟨D, hD⟩ : ∃ D : Nat, D = p.dep.toNat := ⟨_, rfl⟩
    have HDP : Hid (p.dep = (D : Int)) := by have := HGD.out.1; show _ = _; omega
    have HD2 : Hid (D ≤ 256) := by have := HGD.out.2.1; have := HGD.out.1; show D ≤ 256; omega
    have HDD := Lib.hid hD
    have b7 : (z != 0) = false := by rw [HZ.out, h7]; rfl
    obtain ⟨L, hL⟩ : ∃ L, L = preL n p k := ⟨_, rfl⟩
    have HLN : Hid (L.length = D + 1) := by show _ = _; rw [hL, hD]; exact preL_len
    have HLB : Hid (∀ s ∈ L, s.length ≤ 65) := fun s hs => by
      rw [hL] at hs
      obtain ⟨i, hi⟩ := List.mem_iff_getElem?.1 hs
      have hx := expL_mem (n := n) HGD.out.2.2.2.1 HP.out.sib (d := p.dep.toNat) (by rw [← hD]; exact HD2.out)
      have hil : i < D + 1 := by have := (List.getElem?_eq_some_iff.1 hi).1; rw [preL_len, ← hD] at this; exact this
      have := preB_at n (endP p) (sidX n p) k D D (D - i) (by omega)
      rw [show D - (D - i) = i by omega] at this
      rw [show preL n p k = preB n (endP p) (sidX n p) k D D by unfold preL; rw [← hD]] at hi
      rw [this] at hi
      cases hi
      exact preF_len (endP_len HP.out) hx (by show D ≤ (expL n p.bm p.sib p.dep.toNat).length; rw [expL_len, ← hD]; exact Nat.le_refl _) (D - i) (by omega)
    have HES := fo.pre w1 b n 0 p A c k HH1.out (by omega) HV1.out HP.out HA1.out HC.out (by have := HL.out; omega) HK.out h7
    rw [← hL, HLN.out] at HES
    have HES := Lib.hid HES
    have HRS : Hid (∀ w, DS w A p.sib → Calls Tryd.prog 21 #[.int .i64 n, .agg (pfC p (.slice A p.sib.length c)), .agg (bA k)] w fun e w' => ∃ A' c', e = .returned (.slice A' (D + 1) c') ∧ PS w' A' L ∧ Below w.heap.size w w') := fun w h => by
      have := rpre_c n p HP.out A c k HK.out w h HGD.out HKI.out
      rw [← hL, HLN.out] at this
      exact this
    clear h7 hL hD
    go_wp2_with fail
    refine HES.out.mono ?_
    rintro _ w2 ⟨A2, c2, m2, rfl, hP2, hm2, hH2, hK2⟩
    have HPS2 := Lib.hid hP2
    have HB2 := Lib.hid (keep_new HB1.out HWN.out hK2)
    have HV2 := Lib.hid (HV1.out.hs HH1.out hK2)
    have HP2 := Lib.hid (HP1.out.keep hK2 (by have := HNB.out; omega))
    have HK2 := Lib.hid (RowB.keep16 HK1.out hK2 (by have := HNB.out; omega))
    have HA2 := Lib.hid (HA1.out.hs HH1.out hK2)
    have HH2 := Lib.hid hH2
    have lp := HP2.out.ld HP.out
    have lk := HK2.out.ldKey HK.out
    clear hP2 hm2 hH2 hK2 HES
    go_wp2_with fail
    refine (HRC.out _).mono ?_
    rintro _ w3 ⟨rfl, hb⟩
    have HB3 := Lib.hid (keeps HB2.out hb)
    have HV3 := Lib.hid (HV2.out.below hb)
    have HP3 := Lib.hid (HP2.out.below hb HP2.out.lt)
    have HK3 := Lib.hid (HK2.out.below hb)
    have HA3 := Lib.hid (HA2.out.below hb)
    have HH3 := Lib.hid (HH2.out.keep (Keep.of_below (L := fun _ => False) hb) id)
    have HPS3 := Lib.hid (HPS2.out.below hb)
    have lp := HP3.out.ld HP.out
    have lk := HK3.out.ldKey HK.out
    clear hb
    go_wp2_with fail
    refine (HRS.out _ HA3.out).mono ?_
    rintro _ w4 ⟨A4, c4, rfl, hP4, hb⟩
    have HB4 := Lib.hid (keeps HB3.out hb)
    have HV4 := Lib.hid (HV3.out.below hb)
    have HP4 := Lib.hid (HP3.out.below hb HP3.out.lt)
    have HK4 := Lib.hid (HK3.out.below hb)
    have HA4 := Lib.hid (HA3.out.below hb)
    have HH4 := Lib.hid (HH3.out.keep (Keep.of_below (L := fun _ => False) hb) id)
    have HPS4 := Lib.hid (HPS3.out.below hb)
    have HQS4 := Lib.hid hP4
    have hD256 : D ≤ 256 := HD2.out
    clear hb hP4 lp lk
    go_wp2_with fail
    go_loopg [12, 64] (D + 1) (fun gg _ iv wr => ∃ i : Nat, iv = .int .i64 (i : Int) ∧ i ≤ D + 1 ∧ D + 1 - i = gg ∧ Below w4.heap.size w4 wr)
    case atStart => exact ⟨0, rfl, by omega, by omega, Below.refl _ _⟩
    case round =>
      obtain ⟨i, rfl, hi, rfl, hb⟩ := hrel
      have HBW := Lib.hid hb
      clear hb
      by_cases hlt : i < D + 1
      · have hd : decide (i < D + 1) = true := decide_eq_true hlt
        have hd' : decide ((i : Int) < (D : Int) + 1) = true := decide_eq_true (by omega)
        obtain ⟨l, hl⟩ : ∃ l, L[i]? = some l := ⟨_, List.getElem?_eq_getElem (by rw [HLN.out]; exact hlt)⟩
        obtain ⟨g1, o1, v1, rfl, hc1, A5, c5, rfl, hb5, _⟩ := (HPS4.out.below HBW.out) i l hl
        obtain ⟨g2, o2, v2, rfl, hc2, A6, c6, rfl, hb6, _⟩ := (HQS4.out.below HBW.out) i l hl
        have e1 : ∀ x : Later wr, x.w.cell? ⟨g1, o1 + i, none⟩ = some (.slice A5 l.length c5) := fun x => (x.h.cell (lt_of_cell hc1)).trans hc1
        have e2 : ∀ x : Later wr, x.w.cell? ⟨g2, o2 + i, none⟩ = some (.slice A6 l.length c6) := fun x => (x.h.cell (lt_of_cell hc2)).trans hc2
        have HSM : Hid (∀ x : Later wr, Calls Tryd.prog 22 #[.slice A5 l.length c5, .slice A6 l.length c6] x.w fun e w' => e = .returned (.bool true) ∧ Below x.w.heap.size x.w w') := fun x => by
          have h65 := HLB.out l (List.mem_of_getElem? hl)
          have := same_c A5 A6 c5 c6 l l x.w (hb5.below x.h) (hb6.below x.h) (by omega) (by omega)
          rwa [decide_eq_true rfl] at this
        have i0 : (0 : Int) ≤ (i : Int) := by omega
        have i1 : (i : Int) < ((D + 1 : Nat) : Int) := by omega
        have i1' : (i : Int) < (D : Int) + 1 := by omega
        clear hl hc1 hc2 hb5 hb6
        go_wp2_with fail
        refine wp_region_later (by kernel_rfl) (by kernel_rfl) ?_
        repeat (go_big_quiet_step ((go_at_call 22; exact Later.call (HSM.out _))))
        refine wpQuiet_nil ?_
        rintro _ ⟨x, rfl⟩
        have HB6 := Lib.hid (HBW.out.trans (x.h.mono HBW.out.size))
        clear e1 e2
        go_wp2_with fail
        go_roundg (D + 1 - (i + 1))
        case measure => omega
        case rel => exact ⟨i + 1, by go_num, by omega, rfl, HB6.out⟩
      · obtain rfl : i = D + 1 := by omega
        have hd : decide (D + 1 < D + 1) = false := decide_eq_false (by omega)
        have hd' : decide (((D + 1 : Nat) : Int) < (D : Int) + 1) = false := decide_eq_false (by omega)
        have hd'' : decide ((D : Int) + 1 < (D : Int) + 1) = false := decide_eq_false (by omega)
        have HB5 := Lib.hid (keeps HB4.out HBW.out)
        have HV5 := Lib.hid (HV4.out.below HBW.out)
        go_wp2_with fail
        refine (alive16_c fo _ HV5.out).mono ?_
        rintro _ w6 ⟨rfl, hb⟩
        have HB6 := Lib.hid (keeps HB5.out hb)
        clear hb
        go_wp2
        go_ret
        exact ⟨rfl, HB6.out⟩
  · skip
    have b7 : (z != 0) = true := by rw [HZ.out]; simpa using h7
    have bz : (z == z) = true := by simp
    have HES := fo.preBad w1 b n 0 p A c k HH1.out (by omega) HV1.out HP.out HA1.out HC.out (by have := HL.out; omega) HK.out h7
    rw [← HZ.out] at HES
    have HES := Lib.hid HES
    clear h7
    go_wp2_with fail
    refine HES.out.mono ?_
    rintro _ w2 ⟨A2, c2, m2, rfl, hm2, hH2, hK2⟩
    have HB2 := Lib.hid (keep_new HB1.out HWN.out hK2)
    have HV2 := Lib.hid (HV1.out.hs HH1.out hK2)
    have HP2 := Lib.hid (HP1.out.keep hK2 (by have := HNB.out; omega))
    have HK2 := Lib.hid (RowB.keep16 HK1.out hK2 (by have := HNB.out; omega))
    have HA2 := Lib.hid (HA1.out.hs HH1.out hK2)
    have HH2 := Lib.hid hH2
    have lp := HP2.out.ld HP.out
    have lk := HK2.out.ldKey HK.out
    clear hm2 hH2 hK2 HES
    go_wp2_with fail
    refine (HRC.out _).mono ?_
    rintro _ w3 ⟨rfl, hb⟩
    have HB3 := Lib.hid (keeps HB2.out hb)
    have HV3 := Lib.hid (HV2.out.below hb)
    have HP3 := Lib.hid (HP2.out.below hb HP2.out.lt)
    have HK3 := Lib.hid (HK2.out.below hb)
    have HA3 := Lib.hid (HA2.out.below hb)
    have HH3 := Lib.hid (HH2.out.keep (Keep.of_below (L := fun _ => False) hb) id)
    clear hb lp lk
    go_wp2_with fail
    refine (alive16_c fo _ HV3.out).mono ?_
    rintro _ w4 ⟨rfl, hb⟩
    have HB4 := Lib.hid (keeps HB3.out hb)
    clear hb
    go_wp2
    go_ret
    exact ⟨rfl, HB4.out⟩
theorem preimages16_w (fo : FoV) (n : Int) (p : Pf) (A : Option Addr) (c : Nat) (k : List UInt8) (W : World) (hp : p.Ok) (hA : DS W A p.sib) (hc : p.sib.length ≤ c) (hk : k.length = 32) (hvx : Vars W) :
    Calls Tryd.prog 5 #[.int .i64 n, .agg (pfC p (.slice A p.sib.length c)), .agg (bA k)] W (Aye W) := by
  by_cases h : 300 < p.sib.length ∨ n < 0 ∨ 256 < n
  · exact foldpreimages16_out fo n p A c k W hp hvx h
  · exact foldpreimages16_in fo n p A c k W hp hA hc hk hvx (by omega) (by omega) (by omega)
end Go.Proofs.YtnmbbfndboohjaaDoor
