/- The function of FoldSteps returns true, over contracts (by program: gen-tpl16-laws.py). -/
import Derived.BigQuiet
import Derived.Test.YtnmbbfndboohjaaDoorCD
import Derived.Test.YtnmbbfndboohjaaDoorAW
import Derived.Test.YtnmbbfndboohjaaDoorMD
namespace Go.Proofs.YtnmbbfndboohjaaDoor
open Go.RowKit

theorem bldDig_none16 (w : World) : bldA 24 w #[] = .ok (.value (.agg (bA z26))) w := by kernel_rfl
theorem RowB.keep16 {w w' : World} {b g : Nat} {t : TypeId} {l : List UInt8} (h : RowB w g t l) (k : Keep (fun i => i = b) w w') (hg : ¬ g = b) : RowB w' g t l := k.heap h hg
set_option linter.unusedSimpArgs false in
set_option maxHeartbeats 16000000 in
set_option maxRecDepth 100000 in
theorem foldsteps16_out (fo : FoV) (n : Int) (p : Pf) (A : Option Addr) (c : Nat) (k : List UInt8) (W : World) (hp : p.Ok) (hvx : Vars W) (h : 300 < p.sib.length ∨ n < 0 ∨ 256 < n) :
    Calls Tryd.prog 4 #[.int .i64 n, .agg (pfC p (.slice A p.sib.length c)), .agg (bA k)] W (Aye W) := by
  obtain ⟨X, hX⟩ : ∃ X, X = (W.alloc (.cells (pfC p (.slice A p.sib.length c)) 29)).alloc (.cells (bA k) 23) := ⟨_, rfl⟩
  have hB : Below W.heap.size W X := by rw [hX]; exact Bt.two_below _ _ _
  have hP : PfAt X W.heap.size p (.slice A p.sib.length c) := by rw [hX]; exact (PfAt.one W p _).below (Bt.one_below _ _) (by simp)
  have hKR : RowB X (W.heap.size + 1) 23 k := by rw [hX]; exact heap_alloc2_new W _ _
  have hS := hP.sib hp
  have HB := Lib.hid hB
  have HVX := Lib.hid (hvx.below hB)
  have HX := Lib.hid hX
  by_cases h1 : n < 0 ∨ 256 < n
  · have HR : Hid (∀ w, Calls Tryd.prog 8 #[.int .i64 n] w fun e w' => e = .returned (.bool false) ∧ w = w') := fun w => by
      have := right5_c n w
      rwa [decide_eq_false (by omega)] at this
    clear hB hX hp h h1 hvx hP hKR hS
    go_enter Tryd.func4, Tryd.ntmps4
    go_wp2_with fail
    rw [← HX.out]
    refine (HR.out X).mono ?_
    rintro _ _ ⟨rfl, rfl⟩
    go_wp2_with fail
    refine (alive16_c fo _ HVX.out).mono ?_
    rintro e w1 ⟨rfl, hb⟩
    have HB1 := Lib.hid (keeps HB.out hb)
    clear hb
    go_wp2
    go_ret
    exact ⟨rfl, HB1.out⟩
  · have d1 : decide ((300 : Int) < p.sib.length) = true := by simp; omega
    have HR : Hid (∀ w, Calls Tryd.prog 8 #[.int .i64 n] w fun e w' => e = .returned (.bool true) ∧ w = w') := fun w => by
      have := right5_c n w
      rwa [decide_eq_true (by omega)] at this
    clear hB hX hp h h1 hvx hP hKR
    go_enter Tryd.func4, Tryd.ntmps4
    go_wp2_with fail
    rw [← HX.out]
    refine (HR.out X).mono ?_
    rintro _ _ ⟨rfl, rfl⟩
    go_wp2_with fail
    refine (alive16_c fo _ HVX.out).mono ?_
    rintro e w1 ⟨rfl, hb⟩
    have HB1 := Lib.hid (keeps HB.out hb)
    clear hb hS
    go_wp2
    go_ret
    exact ⟨rfl, HB1.out⟩
set_option linter.unusedSimpArgs false in
set_option maxHeartbeats 16000000 in
set_option maxRecDepth 100000 in
theorem foldsteps16_in (fo : FoV) (n : Int) (p : Pf) (A : Option Addr) (c : Nat) (k : List UInt8) (W : World) (hp : p.Ok) (hA : DS W A p.sib) (hc : p.sib.length ≤ c) (hk : k.length = 32) (hvx : Vars W) (hl : p.sib.length ≤ 300) (h0 : 0 ≤ n) (h1 : n ≤ 256) :
    Calls Tryd.prog 4 #[.int .i64 n, .agg (pfC p (.slice A p.sib.length c)), .agg (bA k)] W (Aye W) := by
  obtain ⟨X, hX⟩ : ∃ X, X = (W.alloc (.cells (pfC p (.slice A p.sib.length c)) 29)).alloc (.cells (bA k) 23) := ⟨_, rfl⟩
  have hB : Below W.heap.size W X := by rw [hX]; exact Bt.two_below _ _ _
  have hP : PfAt X W.heap.size p (.slice A p.sib.length c) := by rw [hX]; exact (PfAt.one W p _).below (Bt.one_below _ _) (by simp)
  have hKR : RowB X (W.heap.size + 1) 23 k := by rw [hX]; exact heap_alloc2_new W _ _
  have hS := hP.sib hp
  have HB := Lib.hid hB
  have HVX := Lib.hid (hvx.below hB)
  have HX := Lib.hid hX
  have HPX := Lib.hid hP
  have HKX := Lib.hid hKR
  have HAX := Lib.hid (hA.below hB)
  have HP := Lib.hid hp
  have HC := Lib.hid hc
  have HK := Lib.hid hk
  have d1 : decide ((300 : Int) < p.sib.length) = false := by simp; omega
  have HR : Hid (∀ w, Calls Tryd.prog 8 #[.int .i64 n] w fun e w' => e = .returned (.bool true) ∧ w = w') := fun w => by
    have := right5_c n w
    rwa [decide_eq_true ⟨h0, h1⟩] at this
  have HH := Lib.hid (hash_in n X h0 h1)
  have HL := Lib.hid hl
  obtain ⟨z, hz⟩ : ∃ z, z = chkP p := ⟨_, rfl⟩
  have HRC : Hid (∀ w, Calls Tryd.prog 17 #[.agg (pfC p (.slice A p.sib.length c))] w fun e w' => e = .returned (.int .i64 z) ∧ Below w.heap.size w w') := fun w => by rw [hz]; exact rcheck_c p hp A c _
  have HZ := Lib.hid hz
  clear hB hX hp hP hA hc hl h0 h1 hk hKR hz hvx
  go_enter Tryd.func4, Tryd.ntmps4
  go_wp2_with fail
  rw [← HX.out]
  refine (HR.out X).mono ?_
  rintro _ _ ⟨rfl, rfl⟩
  go_wp2_with fail
  refine HH.out.mono ?_
  rintro _ w1 ⟨b, rfl, hb, hH, hB1⟩
  have HB1 := Lib.hid (keeps HB.out hB1)
  have HV1 := Lib.hid (HVX.out.below hB1)
  have HP1 := Lib.hid (HPX.out.below hB1 HPX.out.lt)
  have HK1 := Lib.hid (HKX.out.below hB1)
  have HA1 := Lib.hid (HAX.out.below hB1)
  have HH1 := Lib.hid hH
  have HNB : Hid (W.heap.size + 1 < b) := Nat.lt_of_lt_of_le (lt_of_heap HKX.out) hb
  have HWN : Hid (W.heap.size ≤ b) := by have := HNB.out; show _ ≤ _; omega
  have lp := HP1.out.ld HP.out
  have lk := HK1.out.ldKey HK.out
  clear hb hH hB1 HH hS
  by_cases h7 : chkP p = 0
  · skip
    have HGD : Hid p.good := by
      rcases chkP_cases p with ⟨e, _⟩ | ⟨_, ⟨e, _⟩ | ⟨_, g⟩⟩
      · rw [h7] at e; exact absurd e (by decide)
      · rw [h7] at e; exact absurd e (by decide)
      · exact g
    have HKI : Hid (p.kind = 0 ∨ p.kind = 1) := by
      rcases chkP_cases p with ⟨e, _⟩ | ⟨g, _⟩
      · rw [h7] at e; exact absurd e (by decide)
      · exact g
    obtain ⟨D, hD⟩ : ∃ D : Nat, D = p.dep.toNat := ⟨_, rfl⟩
    have HDP : Hid (p.dep = (D : Int)) := by have := HGD.out.1; show _ = _; omega
    have HD2 : Hid (D ≤ 256) := by have := HGD.out.2.1; have := HGD.out.1; show D ≤ 256; omega
    have HDD := Lib.hid hD
    have b7 : (z != 0) = false := by rw [HZ.out, h7]; rfl
    obtain ⟨L, hL⟩ : ∃ L, L = stepL n p k := ⟨_, rfl⟩
    obtain ⟨rt, hrt⟩ : ∃ rt, rt = rootP n p k := ⟨_, rfl⟩
    have HRL : Hid (rt.length = 32) := by show _ = _; rw [hrt]; exact dig_len _ _
    have HLN : Hid (L.length = D + 1) := by show _ = _; rw [hL, hD]; exact stepL_len
    have HLM : Hid (∀ s ∈ L, s.length = 32) := fun s hs => by rw [hL] at hs; exact stpB_mem _ _ _ _ _ _ s hs
    have HLL : Hid (L[D]? = some rt) := by show _ = _; rw [hL, hrt, hD]; exact stepL_last ..
    have HES := fo.steps w1 b n 0 p A c k HH1.out (by omega) HV1.out HP.out HA1.out HC.out (by have := HL.out; omega) HK.out h7
    rw [← hL, HLN.out] at HES
    have HES := Lib.hid HES
    have HRO : Hid (∀ w m, Hs w b n m → m ≤ 500000 → Vars w → DS w A p.sib → Calls Tryd.prog 16 #[ptr b, .agg (pfC p (.slice A p.sib.length c)), .agg (bA k)] w fun e w' => ∃ m', e = .returned (.tuple #[.agg (bA rt), .int .i64 0]) ∧ m' ≤ m + (p.dep.toNat + 2) ∧ Hs w' b n m' ∧ Keep (fun i => i = b) w w') := fun w m h1 h2 h3 h4 => by
      rw [hrt]
      exact fo.root w b n m p A c k h1 h2 h3 HP.out h4 HC.out (by have := HL.out; omega) HK.out h7
    have HRS : Hid (∀ w, DS w A p.sib → Calls Tryd.prog 18 #[.int .i64 n, .agg (pfC p (.slice A p.sib.length c)), .agg (bA k)] w fun e w' => ∃ A' c', e = .returned (.slice A' (D + 1) c') ∧ DS w' A' L ∧ Below w.heap.size w w') := fun w h => by
      refine (rsteps_c n p HP.out A c k HK.out w h HGD.out HKI.out).mono ?_
      rintro e w' ⟨v, rfl, hO, hb⟩
      rw [← hL] at hO
      obtain ⟨A', c', rfl, hd, _⟩ := hO.ds HLM.out
      rw [HLN.out]
      exact ⟨A', c', rfl, hd, hb⟩
    have HEQ : Hid (∀ A B c d w, DS w A L → DS w B L → Calls Tryd.prog 19 #[.slice A (D + 1) c, .slice B (D + 1) d] w fun e w' => e = .returned (.bool true) ∧ Below w.heap.size w w') := fun A B c d w h1 h2 => by
      have := deq_c A B c d L L w h1 h2 (by rw [HLN.out]; have := HD2.out; omega)
      rw [HLN.out, decide_eq_true rfl] at this
      exact this
    clear h7 hL hrt hD
    go_wp2_with fail
    refine HES.out.mono ?_
    rintro _ w2 ⟨A2, c2, m2, rfl, hN2, hm2, hH2, hK2⟩
    have HB2 := Lib.hid (keep_new HB1.out HWN.out hK2)
    have HV2 := Lib.hid (HV1.out.hs HH1.out hK2)
    have HP2 := Lib.hid (HP1.out.keep hK2 (by have := HNB.out; omega))
    have HK2 := Lib.hid (RowB.keep16 HK1.out hK2 (by have := HNB.out; omega))
    have HA2 := Lib.hid (HA1.out.hs HH1.out hK2)
    have HH2 := Lib.hid hH2
    have HD2S := Lib.hid (hN2.ds HLM.out)
    have HM2 := Lib.hid hm2
    have lp := HP2.out.ld HP.out
    have lk := HK2.out.ldKey HK.out
    clear hN2 hm2 hH2 hK2 HES
    go_wp2_with fail
    refine (HRO.out w2 m2 HH2.out (by have := HM2.out; have := HD2.out; have := HDD.out; omega) HV2.out HA2.out).mono ?_
    rintro _ w3 ⟨m3, rfl, hm3, hH3, hK3⟩
    have HB3 := Lib.hid (keep_new HB2.out HWN.out hK3)
    have HV3 := Lib.hid (HV2.out.hs HH2.out hK3)
    have HP3 := Lib.hid (HP2.out.keep hK3 (by have := HNB.out; omega))
    have HK3 := Lib.hid (RowB.keep16 HK2.out hK3 (by have := HNB.out; omega))
    have HA3 := Lib.hid (HA2.out.hs HH2.out hK3)
    have HH3 := Lib.hid hH3
    have HD3S := Lib.hid (DS.hs HD2S.out HH2.out hK3)
    have st := stA_new (t := 24) w3 (bA z26) (bA rt) (by rw [bA_size, HRL.out]; exact info26) (by rw [bA_size, bA_size, HRL.out]; rfl) (bA_one _)
    obtain ⟨w4, hw4⟩ : ∃ w, w = w3.alloc (.cells (bA rt) 24) := ⟨_, rfl⟩
    have hb4 : Below w3.heap.size w3 w4 := by rw [hw4]; exact Bt.one_below _ _
    have HR4 : Hid (w4.heap[w3.heap.size]? = some (.cells (bA rt) 24 (0, 0))) := by show _ = _; rw [hw4]; exact heap_alloc_new w3 _
    rw [← hw4] at st
    have HW4 := Lib.hid hw4
    have HB4 := Lib.hid (keeps HB3.out hb4)
    have HV4 := Lib.hid (HV3.out.below hb4)
    have HP4 := Lib.hid (HP3.out.below hb4 HP3.out.lt)
    have HK4 := Lib.hid (HK3.out.below hb4)
    have HA4 := Lib.hid (HA3.out.below hb4)
    have HH4 := Lib.hid (HH3.out.keep (Keep.of_below (L := fun _ => False) hb4) id)
    have HD4S := Lib.hid (HD3S.out.below hb4)
    have lp := HP4.out.ld HP.out
    clear hm3 hH3 hK3 hb4 hw4
    go_wp2_with fail
    refine (HRC.out _).mono ?_
    rintro _ w5 ⟨rfl, hb⟩
    have HB5 := Lib.hid (keeps HB4.out hb)
    have HV5 := Lib.hid (HV4.out.below hb)
    have HP5 := Lib.hid (HP4.out.below hb HP4.out.lt)
    have HK5 := Lib.hid (HK4.out.below hb)
    have HA5 := Lib.hid (HA4.out.below hb)
    have HH5 := Lib.hid (HH4.out.keep (Keep.of_below (L := fun _ => False) hb) id)
    have HD5S := Lib.hid (HD4S.out.below hb)
    have HR5 : Hid (w5.heap[w3.heap.size]? = some (.cells (bA rt) 24 (0, 0))) := by show _ = _; rw [hb.block _ (lt_of_heap HR4.out)]; exact HR4.out
    have lp := HP5.out.ld HP.out
    have lk := HK5.out.ldKey HK.out
    clear hb st
    go_wp2_with fail
    refine (HRS.out _ HA5.out).mono ?_
    rintro _ w6 ⟨A6, c6, rfl, hd6, hb⟩
    have HB6 := Lib.hid (keeps HB5.out hb)
    have HV6 := Lib.hid (HV5.out.below hb)
    have HP6 := Lib.hid (HP5.out.below hb HP5.out.lt)
    have HK6 := Lib.hid (HK5.out.below hb)
    have HA6 := Lib.hid (HA5.out.below hb)
    have HH6 := Lib.hid (HH5.out.keep (Keep.of_below (L := fun _ => False) hb) id)
    have HD6S := Lib.hid (HD5S.out.below hb)
    have HF6 := Lib.hid hd6
    have hR6 : w6.heap[w3.heap.size]? = some (.cells (bA rt) 24 (0, 0)) := by rw [hb.block _ (lt_of_heap HR5.out)]; exact HR5.out
    obtain ⟨_, g6, o6, rfl, hr6⟩ := hd6 D rt HLL.out
    have l1 : ∀ x : Later w6, ldA 24 x.w (.pointer (some ⟨w3.heap.size, 0, none⟩)) = .ok (.value (.agg (bA rt))) x.w := fun x => RowB.ldDig (x.block hR6) HRL.out
    have l2 : ∀ x : Later w6, ldA 24 x.w (.pointer (some ⟨g6, o6 + D * 32, none⟩)) = .ok (.value (.agg (bA rt))) x.w := fun x => ldDig (range_below hr6 x.h) HRL.out
    have HAL : Hid (∀ x : Later w6, Calls Tryd.prog 9 #[] x.w fun e w' => e = .returned (.bool true) ∧ Below x.w.heap.size x.w w') := fun x => alive16_c fo _ (HV6.out.below x.h)
    have HE6 : Hid (∀ x : Later w6, Calls Tryd.prog 19 #[.slice A2 (D + 1) c2, .slice (some ⟨g6, o6, none⟩) (D + 1) c6] x.w fun e w' => e = .returned (.bool true) ∧ Below x.w.heap.size x.w w') := fun x => HEQ.out _ _ _ _ _ (HD6S.out.below x.h) (HF6.out.below x.h)
    have el := fun x y w => eqDig rt rt HRL.out HRL.out x y w
    rw [decide_eq_true (rfl : rt = rt)] at el
    have hw0 : IntKind.i64.wrap (((D + 1 : Nat) : Int) - 1) = (D : Int) := by rw [Bt.wrap_inr (by omega) (by have := HD2.out; omega)]; omega
    have hw0' : IntKind.i64.wrap ((D : Int) + 1 - 1) = (D : Int) := by rw [Bt.wrap_inr (by omega) (by have := HD2.out; omega)]; omega
    have hwD : IntKind.i64.wrap (D : Int) = (D : Int) := Bt.wrap_inr (by omega) (by have := HD2.out; omega)
    have j0 : (0 : Int) ≤ (D : Int) := by omega
    have j1 : (D : Int) < ((D + 1 : Nat) : Int) := by omega
    have j1' : (D : Int) < (D : Int) + 1 := by omega
    clear hb hd6 hR6 hr6 lp lk
    go_wp2_with fail
    refine wp_region_later (by kernel_rfl) (by kernel_rfl) ?_
    repeat (go_big_quiet_step ((first | (go_at_call 9; exact Later.call (HAL.out _)) | (go_at_call 19; exact Later.call (HE6.out _)))))
    refine wpQuiet_nil ?_
    rintro _ ⟨x, rfl⟩
    have HB7 := Lib.hid (keeps HB6.out x.h)
    clear l1 l2 el hw0 hw0' hwD
    go_wp2
    go_ret
    exact ⟨rfl, HB7.out⟩
  · skip
    have b7 : (z != 0) = true := by rw [HZ.out]; simpa using h7
    have bz : (z == z) = true := by simp
    have bl := fun w => bldDig_none16 w
    have HES := fo.stepsBad w1 b n 0 p A c k HH1.out (by omega) HV1.out HP.out HA1.out HC.out (by have := HL.out; omega) HK.out h7
    rw [← HZ.out] at HES
    have HES := Lib.hid HES
    have HRO : Hid (∀ w m, Hs w b n m → m ≤ 500000 → Vars w → DS w A p.sib → Calls Tryd.prog 16 #[ptr b, .agg (pfC p (.slice A p.sib.length c)), .agg (bA k)] w fun e w' => ∃ m', e = .returned (.tuple #[.agg (bA z26), .int .i64 z]) ∧ m' ≤ m + 1000 ∧ Hs w' b n m' ∧ Keep (fun i => i = b) w w') := fun w m h1 h2 h3 h4 => by
      rw [HZ.out]
      exact fo.rootBad w b n m p A c k h1 h2 h3 HP.out h4 HC.out (by have := HL.out; omega) HK.out h7
    clear h7
    go_wp2_with fail
    refine HES.out.mono ?_
    rintro _ w2 ⟨A2, c2, m2, rfl, hm2, hH2, hK2⟩
    have HB2 := Lib.hid (keep_new HB1.out HWN.out hK2)
    have HV2 := Lib.hid (HV1.out.hs HH1.out hK2)
    have HP2 := Lib.hid (HP1.out.keep hK2 (by have := HNB.out; omega))
    have HK2 := Lib.hid (RowB.keep16 HK1.out hK2 (by have := HNB.out; omega))
    have HA2 := Lib.hid (HA1.out.hs HH1.out hK2)
    have HH2 := Lib.hid hH2
    have HM2 := Lib.hid hm2
    have lp := HP2.out.ld HP.out
    have lk := HK2.out.ldKey HK.out
    clear hm2 hH2 hK2 HES
    go_wp2_with fail
    refine (HRO.out w2 m2 HH2.out (by have := HM2.out; omega) HV2.out HA2.out).mono ?_
    rintro _ w3 ⟨m3, rfl, hm3, hH3, hK3⟩
    have HB3 := Lib.hid (keep_new HB2.out HWN.out hK3)
    have HV3 := Lib.hid (HV2.out.hs HH2.out hK3)
    have HP3 := Lib.hid (HP2.out.keep hK3 (by have := HNB.out; omega))
    have HK3 := Lib.hid (RowB.keep16 HK2.out hK3 (by have := HNB.out; omega))
    have HA3 := Lib.hid (HA2.out.hs HH2.out hK3)
    have HH3 := Lib.hid hH3
    have st := stA_new (t := 24) w3 (bA z26) (bA z26) (by rw [bA_size, (show z26.length = 32 from rfl)]; exact info26) (rfl) (bA_one _)
    obtain ⟨w4, hw4⟩ : ∃ w, w = w3.alloc (.cells (bA z26) 24) := ⟨_, rfl⟩
    have hb4 : Below w3.heap.size w3 w4 := by rw [hw4]; exact Bt.one_below _ _
    have HR4 : Hid (w4.heap[w3.heap.size]? = some (.cells (bA z26) 24 (0, 0))) := by show _ = _; rw [hw4]; exact heap_alloc_new w3 _

    have HW4 := Lib.hid hw4
    have HB4 := Lib.hid (keeps HB3.out hb4)
    have HV4 := Lib.hid (HV3.out.below hb4)
    have HP4 := Lib.hid (HP3.out.below hb4 HP3.out.lt)
    have HK4 := Lib.hid (HK3.out.below hb4)
    have HA4 := Lib.hid (HA3.out.below hb4)
    have HH4 := Lib.hid (HH3.out.keep (Keep.of_below (L := fun _ => False) hb4) id)
    have lp := HP4.out.ld HP.out
    rw [HW4.out] at lp
    clear hm3 hH3 hK3 hb4 hw4
    go_wp2_with fail
    rw [← HW4.out]
    refine (HRC.out _).mono ?_
    rintro _ w5 ⟨rfl, hb⟩
    have HB5 := Lib.hid (keeps HB4.out hb)
    have HV5 := Lib.hid (HV4.out.below hb)
    have HP5 := Lib.hid (HP4.out.below hb HP4.out.lt)
    have HK5 := Lib.hid (HK4.out.below hb)
    have HA5 := Lib.hid (HA4.out.below hb)
    have HH5 := Lib.hid (HH4.out.keep (Keep.of_below (L := fun _ => False) hb) id)
    have HR5 : Hid (w5.heap[w3.heap.size]? = some (.cells (bA z26) 24 (0, 0))) := by show _ = _; rw [hb.block _ (lt_of_heap HR4.out)]; exact HR4.out
    clear hb st lp lk
    go_wp2_with fail
    refine (alive16_c fo _ HV5.out).mono ?_
    rintro _ w6 ⟨rfl, hb⟩
    have HB6 := Lib.hid (keeps HB5.out hb)
    have hR6 : w6.heap[w3.heap.size]? = some (.cells (bA z26) 24 (0, 0)) := (hb.block _ (lt_of_heap HR5.out)).trans HR5.out
    have lz : ldA 24 w6 (.pointer (some ⟨w3.heap.size, 0, none⟩)) = .ok (.value (.agg (bA z26))) w6 := RowB.ldDig hR6 rfl
    have el := fun x y w => eqDig z26 z26 rfl rfl x y w
    rw [decide_eq_true (rfl : z26 = z26)] at el
    clear hb hR6
    go_wp2
    go_ret
    exact ⟨rfl, HB6.out⟩
theorem steps16_w (fo : FoV) (n : Int) (p : Pf) (A : Option Addr) (c : Nat) (k : List UInt8) (W : World) (hp : p.Ok) (hA : DS W A p.sib) (hc : p.sib.length ≤ c) (hk : k.length = 32) (hvx : Vars W) :
    Calls Tryd.prog 4 #[.int .i64 n, .agg (pfC p (.slice A p.sib.length c)), .agg (bA k)] W (Aye W) := by
  by_cases h : 300 < p.sib.length ∨ n < 0 ∨ 256 < n
  · exact foldsteps16_out fo n p A c k W hp hvx h
  · exact foldsteps16_in fo n p A c k W hp hA hc hk hvx (by omega) (by omega) (by omega)
end Go.Proofs.YtnmbbfndboohjaaDoor
