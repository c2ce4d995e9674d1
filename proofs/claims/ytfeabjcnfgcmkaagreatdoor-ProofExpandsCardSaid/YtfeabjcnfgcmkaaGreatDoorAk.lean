/- The library's slices.Equal at two slices of the same digests; the function of ProofExpands returns true, over contracts. -/
import Derived.BigQuiet
import Derived.Test.YtfeabjcnfgcmkaaGreatDoorAi
namespace Go.Proofs.YtfeabjcnfgcmkaaGreatDoor
open Go.RowKit

set_option maxHeartbeats 4000000 in
set_option maxRecDepth 100000 in
theorem deq_yes (A B : Option Addr) (c d : Nat) (l : List (List UInt8)) (w : World) (hA : DS w A l) (hB : DS w B l) (hl : l.length ≤ 1000000) :
    Calls Tryz.prog 19 #[.slice A l.length c, .slice B l.length d] w fun e w' => e = .returned (.bool true) ∧ Below w.heap.size w w' := by
  have HA := Lib.hid hA
  have HB := Lib.hid hB
  have dn : ((l.length : Int) != (l.length : Int)) = false := by simp
  clear hA hB
  go_enter Tryz.func19, Tryz.ntmps19
  go_wp2_with fail
  go_loopg [5, 13] l.length (fun gg _ i wr => ∃ k : Nat, i = .int .i64 (k : Int) ∧ k ≤ l.length ∧ l.length - k = gg ∧ Below w.heap.size w wr)
  case atStart => exact ⟨0, rfl, by omega, by omega, Below.refl _ _⟩
  case round =>
    obtain ⟨k, rfl, hk, rfl, hb⟩ := hrel
    have HBW := Lib.hid hb
    clear hb
    by_cases hlt : k < l.length
    · have hd : decide (k < l.length) = true := decide_eq_true hlt
      obtain ⟨x, hx⟩ : ∃ x, l[k]? = some x := ⟨_, List.getElem?_eq_getElem hlt⟩
      obtain ⟨hxl, b1, o1, rfl, h1⟩ := HA.out k x hx
      obtain ⟨_, b2, o2, rfl, h2⟩ := HB.out k x hx
      have la : ∀ z : Later wr, ldA 32 z.w (.pointer (some ⟨b1, o1 + k * 32, none⟩)) = .ok (.value (.agg (bA x))) z.w := fun z => ldDig (range_below (range_below h1 HBW.out) z.h) hxl
      have lb : ∀ z : Later wr, ldA 32 z.w (.pointer (some ⟨b2, o2 + k * 32, none⟩)) = .ok (.value (.agg (bA x))) z.w := fun z => ldDig (range_below (range_below h2 HBW.out) z.h) hxl
      have nq : ∀ p q w, eqA .neq 32 p q w (.agg (bA x)) (.agg (bA x)) = .ok (.value (.bool false)) w := fun p q w => by rw [neDig x x hxl hxl, decide_eq_true rfl]; rfl
      have p0 : (0 : Int) ≤ (k : Int) := by omega
      have p1 : (k : Int) < (l.length : Int) := by omega
      clear hx h1 h2 hxl
      go_wp2_with fail
      refine wp_region_later (by kernel_rfl) (by kernel_rfl) ?_
      repeat (go_big_quiet_step (fail))
      refine wpQuiet_nil ?_
      rintro _ ⟨y, rfl⟩
      have HB2 := Lib.hid (HBW.out.trans (y.h.mono HBW.out.size))
      clear la lb nq
      go_wp2_with fail
      go_roundg (l.length - (k + 1))
      case measure => omega
      case rel => exact ⟨k + 1, by go_num, by omega, rfl, HB2.out⟩
    · obtain rfl : k = l.length := by omega
      have hd : decide (l.length < l.length) = false := decide_eq_false (by omega)
      go_wp2_with fail
      go_ret
      exact ⟨rfl, HBW.out⟩
set_option maxHeartbeats 8000000 in
set_option maxRecDepth 100000 in
theorem expands15_out {M : World → Int → Tv → Prop} (nd : NdV M) (pv : PtV M) (pf : PfV M) (n : Int) (p : Pf) (A : Option Addr) (c : Nat) (W : World) (hp : p.Ok) (hvx : Vars W) (h : 300 < p.sib.length ∨ n < 0 ∨ 256 < n) :
    Calls Tryz.prog 5 #[.int .i64 n, .agg (pfC p (.slice A p.sib.length c))] W (Aye W) := by
  obtain ⟨X, hX⟩ : ∃ X, X = W.alloc (.cells (pfC p (.slice A p.sib.length c)) 37) := ⟨_, rfl⟩
  have hB : Below W.heap.size W X := by rw [hX]; exact Bt.one_below _ _
  have hS := (PfAt.one W p (.slice A p.sib.length c)).sib hp
  have HB := Lib.hid hB
  have HVX := Lib.hid (hvx.below hB)
  have HX := Lib.hid hX
  by_cases h1 : 300 < p.sib.length
  · have d1 : decide ((300 : Int) < p.sib.length) = true := by simp; omega
    clear hB hX hp h h1
    go_enter Tryz.func5, Tryz.ntmps5
    go_wp2_with fail
    rw [← HX.out]
    refine (alive15_c nd pv pf _ HVX.out).mono ?_
    rintro e w1 ⟨rfl, hb⟩
    have HB1 := Lib.hid (keeps HB.out hb)
    clear hb
    go_wp2
    go_ret
    exact ⟨rfl, HB1.out⟩
  · have d1 : decide ((300 : Int) < p.sib.length) = false := by simp; omega
    have HR : Hid (∀ w, Calls Tryz.prog 16 #[.int .i64 n] w fun e w' => e = .returned (.bool false) ∧ w = w') := fun w => by
      have := right5_c n w
      rwa [decide_eq_false (by omega)] at this
    clear hB hX hp h h1
    go_enter Tryz.func5, Tryz.ntmps5
    go_wp2_with fail
    rw [← HX.out]
    refine (HR.out X).mono ?_
    rintro _ _ ⟨rfl, rfl⟩
    go_wp2_with fail
    refine (alive15_c nd pv pf _ HVX.out).mono ?_
    rintro e w1 ⟨rfl, hb⟩
    have HB1 := Lib.hid (keeps HB.out hb)
    clear hb
    go_wp2
    go_ret
    exact ⟨rfl, HB1.out⟩
set_option maxHeartbeats 8000000 in
set_option maxRecDepth 100000 in
theorem expands15_in {M : World → Int → Tv → Prop} (nd : NdV M) (pv : PtV M) (pf : PfV M) (n : Int) (p : Pf) (A : Option Addr) (c : Nat) (W : World) (hp : p.Ok) (hA : DS W A p.sib) (hc : p.sib.length ≤ c) (hvx : Vars W) (hl : p.sib.length ≤ 300) (h0 : 0 ≤ n) (h1 : n ≤ 256) :
    Calls Tryz.prog 5 #[.int .i64 n, .agg (pfC p (.slice A p.sib.length c))] W (Aye W) := by
  obtain ⟨X, hX⟩ : ∃ X, X = W.alloc (.cells (pfC p (.slice A p.sib.length c)) 37) := ⟨_, rfl⟩
  have hB : Below W.heap.size W X := by rw [hX]; exact Bt.one_below _ _
  have hP : PfAt X W.heap.size p (.slice A p.sib.length c) := by rw [hX]; exact PfAt.one _ _ _
  have hS := (PfAt.one W p (.slice A p.sib.length c)).sib hp
  have HB := Lib.hid hB
  have HVX := Lib.hid (hvx.below hB)
  have HX := Lib.hid hX
  have HPX := Lib.hid hP
  have HAX := Lib.hid (hA.below hB)
  have HP := Lib.hid hp
  have HC := Lib.hid hc
  have d1 : decide ((300 : Int) < p.sib.length) = false := by simp; omega
  have HR : Hid (∀ w, Calls Tryz.prog 16 #[.int .i64 n] w fun e w' => e = .returned (.bool true) ∧ w = w') := fun w => by
    have := right5_c n w
    rwa [decide_eq_true ⟨h0, h1⟩] at this
  have HH := Lib.hid (hash_in n X h0 h1)
  have HL := Lib.hid hl
  have HN := Lib.hid (And.intro h0 h1)
  clear hB hX hp hP hA hc hl h0 h1
  go_enter Tryz.func5, Tryz.ntmps5
  go_wp2_with fail
  rw [← HX.out]
  refine (HR.out X).mono ?_
  rintro _ _ ⟨rfl, rfl⟩
  go_wp2_with fail
  refine HH.out.mono ?_
  rintro _ w1 ⟨b, rfl, hb, hH, hB1⟩
  have HB1 := Lib.hid (keeps HB.out hB1)
  have HV1 := Lib.hid (HVX.out.below hB1)
  have HP1 := Lib.hid (HPX.out.below hB1 HPX.out.lt)
  have HA1 := Lib.hid (HAX.out.below hB1)
  have HH1 := Lib.hid hH
  have HNB : Hid (W.heap.size < b) := Nat.lt_of_lt_of_le HPX.out.lt hb
  have lp := HP1.out.ld HP.out
  clear hb hH hB1 HH hS
  obtain ⟨z, hz⟩ : ∃ z, z = chkP p := ⟨_, rfl⟩
  have HRC : Hid (∀ w, Calls Tryz.prog 18 #[.agg (pfC p (.slice A p.sib.length c))] w fun e w' => e = .returned (.int .i64 z) ∧ Below w.heap.size w w') := fun w => by rw [hz]; exact rcheck_c p HP.out A c _
  by_cases h7 : chkP p = 0
  · have b7 : (z != 0) = false := by rw [hz, h7]; rfl
    have HGD : Hid p.good := by
      rcases chkP_cases p with ⟨e, _⟩ | ⟨_, ⟨e, _⟩ | ⟨_, g⟩⟩
      · rw [h7] at e; exact absurd e (by decide)
      · rw [h7] at e; exact absurd e (by decide)
      · exact g
    have HE := Lib.hid (pf.expand w1 b n 0 p A c HH1.out (by omega) HV1.out HP.out HA1.out HC.out (by have := HL.out; omega) h7)
    obtain ⟨L, hL⟩ : ∃ L, L = expL n p.bm p.sib p.dep.toNat := ⟨_, rfl⟩
    obtain ⟨m, hm⟩ : ∃ m, m = L.length := ⟨_, rfl⟩
    have HML : Hid (∀ s ∈ L, s.length = 32) := by rw [hL]; exact expL_mem HGD.out.2.2.2.1 HP.out.sib (by have := HGD.out.2.1; omega)
    have HMM : Hid (m ≤ 256) := by
      have := HGD.out.2.1
      show _ ≤ _
      rw [hm, hL, expL_len]; omega
    have HRE : Hid (∀ w, DS w A p.sib → Calls Tryz.prog 20 #[.int .i64 n, .agg (pfC p (.slice A p.sib.length c))] w fun e w' => ∃ A' c', e = .returned (.slice A' m c') ∧ DS w' A' L ∧ Below w.heap.size w w') := fun w h => by
      refine (rexpand_c n p HP.out A c w h HGD.out).mono ?_
      rintro e w' ⟨v, rfl, hO, hb⟩
      rw [← hL] at hO
      obtain ⟨A', c', rfl, hd, _⟩ := hO.ds HML.out
      rw [← hm]
      exact ⟨A', c', rfl, hd, hb⟩
    have HEQ : Hid (∀ A B c d w, DS w A L → DS w B L → Calls Tryz.prog 19 #[.slice A m c, .slice B m d] w fun e w' => e = .returned (.bool true) ∧ Below w.heap.size w w') := fun A B c d w h1 h2 => by
      have hml := HMM.out
      rw [hm] at hml ⊢
      exact deq_yes A B c d L w h1 h2 (by omega)
    rw [← hL, ← hm] at HE
    clear hz h7 hL hm
    go_wp2_with fail
    refine HE.out.mono ?_
    rintro _ w2 ⟨A2, c2, m2, rfl, hN2, hm2, hH2, hK2⟩
    have HB2 := Lib.hid (keep_new HB1.out (by have := HNB.out; omega) hK2)
    have HV2 := Lib.hid (HV1.out.hs HH1.out hK2)
    have HP2 := Lib.hid (HP1.out.keep hK2 (by have := HNB.out; omega))
    have HA2 := Lib.hid (HA1.out.hs HH1.out hK2)
    have HD2 := Lib.hid (hN2.ds HML.out)
    have lp := HP2.out.ld HP.out
    clear hN2 hm2 hH2 hK2 HE
    go_wp2_with fail
    refine (HRC.out _).mono ?_
    rintro _ w3 ⟨rfl, hb⟩
    have HB3 := Lib.hid (keeps HB2.out hb)
    have HV3 := Lib.hid (HV2.out.below hb)
    have HP3 := Lib.hid (HP2.out.below hb HP2.out.lt)
    have HA3 := Lib.hid (HA2.out.below hb)
    have HD3 := Lib.hid (HD2.out.below hb)
    clear hb
    go_wp2_with fail
    refine (alive15_c nd pv pf _ HV3.out).mono ?_
    rintro _ w4 ⟨rfl, hb⟩
    have HB4 := Lib.hid (keeps HB3.out hb)
    have HP4 := Lib.hid (HP3.out.below hb HP3.out.lt)
    have HA4 := Lib.hid (HA3.out.below hb)
    have HD4 := Lib.hid (HD3.out.below hb)
    have lp := HP4.out.ld HP.out
    clear hb
    go_wp2_with fail
    refine (HRE.out _ HA4.out).mono ?_
    rintro _ w5 ⟨A5, c5, rfl, hd5, hb⟩
    have HB5 := Lib.hid (keeps HB4.out hb)
    have HD5 := Lib.hid (HD4.out.below hb)
    have HF5 := Lib.hid hd5
    clear hb hd5
    go_wp2_with fail
    refine (HEQ.out A2 A5 c2 c5 _ HD5.out HF5.out).mono ?_
    rintro _ w6 ⟨rfl, hb⟩
    have HB6 := Lib.hid (keeps HB5.out hb)
    clear hb lp
    go_wp2
    go_ret
    exact ⟨rfl, HB6.out⟩
  · have b7 : (z != 0) = true := by rw [hz]; simpa using h7
    have bz : (z == z) = true := by simp
    have HE := Lib.hid (pf.expandBad w1 b n 0 p A c HH1.out (by omega) HV1.out HP.out HA1.out HC.out (by have := HL.out; omega) h7)
    rw [← hz] at HE
    clear hz h7
    go_wp2_with fail
    refine HE.out.mono ?_
    rintro _ w2 ⟨A2, c2, m2, rfl, hm2, hH2, hK2⟩
    have HB2 := Lib.hid (keep_new HB1.out (by have := HNB.out; omega) hK2)
    have HV2 := Lib.hid (HV1.out.hs HH1.out hK2)
    have HP2 := Lib.hid (HP1.out.keep hK2 (by have := HNB.out; omega))
    have lp := HP2.out.ld HP.out
    clear hm2 hH2 hK2 HE
    go_wp2_with fail
    refine (HRC.out _).mono ?_
    rintro _ w3 ⟨rfl, hb⟩
    have HB3 := Lib.hid (keeps HB2.out hb)
    have HV3 := Lib.hid (HV2.out.below hb)
    clear hb
    go_wp2_with fail
    refine (alive15_c nd pv pf _ HV3.out).mono ?_
    rintro _ w4 ⟨rfl, hb⟩
    have HB4 := Lib.hid (keeps HB3.out hb)
    clear hb lp
    go_wp2
    go_ret
    exact ⟨rfl, HB4.out⟩
theorem expands15_w {M : World → Int → Tv → Prop} (nd : NdV M) (pv : PtV M) (pf : PfV M) (n : Int) (p : Pf) (A : Option Addr) (c : Nat) (W : World) (hp : p.Ok) (hA : DS W A p.sib) (hc : p.sib.length ≤ c) (hvx : Vars W) :
    Calls Tryz.prog 5 #[.int .i64 n, .agg (pfC p (.slice A p.sib.length c))] W (Aye W) := by
  by_cases h : 300 < p.sib.length ∨ n < 0 ∨ 256 < n
  · exact expands15_out nd pv pf n p A c W hp hvx h
  · exact expands15_in nd pv pf n p A c W hp hA hc hvx (by omega) (by omega) (by omega)
end Go.Proofs.YtfeabjcnfgcmkaaGreatDoor
