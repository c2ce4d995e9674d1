/- The function of FoldWorks returns true, over contracts (by program: gen-tpl16-laws.py). -/
import Derived.BigQuiet
import Derived.Test.YtnmbbfndboohjaaDoorCg
import Derived.Test.YtnmbbfndboohjaaDoorMD
namespace Go.Proofs.YtnmbbfndboohjaaDoor
open Go.RowKit

set_option linter.unusedSimpArgs false in
set_option maxHeartbeats 16000000 in
set_option maxRecDepth 100000 in
theorem foldworks16_out (fo : FoV) (n : Int) (p : Pf) (A : Option Addr) (c : Nat) (k : List UInt8) (W : World) (hp : p.Ok) (hvx : Vars W) (h : 300 < p.sib.length ∨ n < 0 ∨ 256 < n) :
    Calls Tryd.prog 7 #[.int .i64 n, .agg (pfC p (.slice A p.sib.length c)), .agg (bA k)] W (Aye W) := by
  obtain ⟨X, hX⟩ : ∃ X, X = (W.alloc (.cells (pfC p (.slice A p.sib.length c)) 29)).alloc (.cells (bA k) 23) := ⟨_, rfl⟩
  have hB : Below W.heap.size W X := by rw [hX]; exact Bt.two_below _ _ _
  have hP : PfAt X W.heap.size p (.slice A p.sib.length c) := by rw [hX]; exact (PfAt.one W p _).below (Bt.one_below _ _) (by simp)
  have hKR : RowB X (W.heap.size + 1) 23 k := by rw [hX]; exact heap_alloc2_new W _ _
  have hS := hP.sib hp
  have HB := Lib.hid hB
  have HVX := Lib.hid (hvx.below hB)
  have HX := Lib.hid hX
  by_cases h1 : n < 0 ∨ 256 < n
  · have HR : Hid (∀ w, Calls Tryd.prog 8 #[.int .i64 n] w fun e w' => e = .returned (.bool false) ∧ w = w') := fun w => by
      have := right5_c n w
      rwa [decide_eq_false (by omega)] at this
    clear hB hX hp h h1 hvx hP hKR hS
    go_enter Tryd.func7, Tryd.ntmps7
    go_wp2_with fail
    rw [← HX.out]
    refine (HR.out X).mono ?_
    rintro _ _ ⟨rfl, rfl⟩
    go_wp2_with fail
    refine (alive16_c fo _ HVX.out).mono ?_
    rintro e w1 ⟨rfl, hb⟩
    have HB1 := Lib.hid (keeps HB.out hb)
    clear hb
    go_wp2
    go_ret
    exact ⟨rfl, HB1.out⟩
  · have d1 : decide ((300 : Int) < p.sib.length) = true := by simp; omega
    have HR : Hid (∀ w, Calls Tryd.prog 8 #[.int .i64 n] w fun e w' => e = .returned (.bool true) ∧ w = w') := fun w => by
      have := right5_c n w
      rwa [decide_eq_true (by omega)] at this
    clear hB hX hp h h1 hvx hP hKR
    go_enter Tryd.func7, Tryd.ntmps7
    go_wp2_with fail
    rw [← HX.out]
    refine (HR.out X).mono ?_
    rintro _ _ ⟨rfl, rfl⟩
    go_wp2_with fail
    refine (alive16_c fo _ HVX.out).mono ?_
    rintro e w1 ⟨rfl, hb⟩
    have HB1 := Lib.hid (keeps HB.out hb)
    clear hb hS
    go_wp2
    go_ret
    exact ⟨rfl, HB1.out⟩
set_option linter.unusedSimpArgs false in
set_option maxHeartbeats 16000000 in
set_option maxRecDepth 100000 in
theorem foldworks16_in (fo : FoV) (n : Int) (p : Pf) (A : Option Addr) (c : Nat) (k : List UInt8) (W : World) (hp : p.Ok) (hA : DS W A p.sib) (hc : p.sib.length ≤ c) (hk : k.length = 32) (hvx : Vars W) (hl : p.sib.length ≤ 300) (h0 : 0 ≤ n) (h1 : n ≤ 256) :
    Calls Tryd.prog 7 #[.int .i64 n, .agg (pfC p (.slice A p.sib.length c)), .agg (bA k)] W (Aye W) := by
  obtain ⟨X, hX⟩ : ∃ X, X = (W.alloc (.cells (pfC p (.slice A p.sib.length c)) 29)).alloc (.cells (bA k) 23) := ⟨_, rfl⟩
  have hB : Below W.heap.size W X := by rw [hX]; exact Bt.two_below _ _ _
  have hP : PfAt X W.heap.size p (.slice A p.sib.length c) := by rw [hX]; exact (PfAt.one W p _).below (Bt.one_below _ _) (by simp)
  have hKR : RowB X (W.heap.size + 1) 23 k := by rw [hX]; exact heap_alloc2_new W _ _
  have hS := hP.sib hp
  have HB := Lib.hid hB
  have HVX := Lib.hid (hvx.below hB)
  have HX := Lib.hid hX
  have HPX := Lib.hid hP
  have HKX := Lib.hid hKR
  have HAX := Lib.hid (hA.below hB)
  have HP := Lib.hid hp
  have HC := Lib.hid hc
  have HK := Lib.hid hk
  have d1 : decide ((300 : Int) < p.sib.length) = false := by simp; omega
  have HR : Hid (∀ w, Calls Tryd.prog 8 #[.int .i64 n] w fun e w' => e = .returned (.bool true) ∧ w = w') := fun w => by
    have := right5_c n w
    rwa [decide_eq_true ⟨h0, h1⟩] at this
  have HL := Lib.hid hl
  have HN0 := Lib.hid h0
  have HN1 := Lib.hid h1
  obtain ⟨z, hz⟩ : ∃ z, z = chkP p := ⟨_, rfl⟩
  have HRC : Hid (∀ w, Calls Tryd.prog 17 #[.agg (pfC p (.slice A p.sib.length c))] w fun e w' => e = .returned (.int .i64 z) ∧ Below w.heap.size w w') := fun w => by rw [hz]; exact rcheck_c p hp A c _
  have HZ := Lib.hid hz
  clear hB hX hp hP hA hc hl h0 h1 hk hKR hz hvx
  go_enter Tryd.func7, Tryd.ntmps7
  go_wp2_with fail
  rw [← HX.out]
  refine (HR.out X).mono ?_
  rintro _ _ ⟨rfl, rfl⟩
  have lp0 := HPX.out.ld HP.out
  go_wp2_with fail
  refine (HRC.out X).mono ?_
  rintro _ X2 ⟨rfl, hbx⟩
  by_cases h7 : chkP p = 0
  · have b8 : (z != 0) = false := by rw [HZ.out, h7]; rfl
    have HBx := Lib.hid (keeps HB.out hbx)
    have HVx := Lib.hid (HVX.out.below hbx)
    have HPx := Lib.hid (HPX.out.below hbx HPX.out.lt)
    have HKx := Lib.hid (HKX.out.below hbx)
    have HAx := Lib.hid (HAX.out.below hbx)
    have HH := Lib.hid (hash_in n X2 HN0.out HN1.out)
    clear hbx hS lp0
    go_wp2_with fail
    refine HH.out.mono ?_
    rintro _ w1 ⟨b, rfl, hb, hH, hB1⟩
    have HB1 := Lib.hid (keeps HBx.out hB1)
    have HV1 := Lib.hid (HVx.out.below hB1)
    have HP1 := Lib.hid (HPx.out.below hB1 HPx.out.lt)
    have HK1 := Lib.hid (HKx.out.below hB1)
    have HA1 := Lib.hid (HAx.out.below hB1)
    have HH1 := Lib.hid hH
    have HNB : Hid (W.heap.size + 1 < b) := Nat.lt_of_lt_of_le (lt_of_heap HKx.out) hb
    have HWN : Hid (W.heap.size ≤ b) := by have := HNB.out; show _ ≤ _; omega
    have lp := HP1.out.ld HP.out
    have lk := HK1.out.ldKey HK.out
    clear hb hH hB1 HH
    have HGD : Hid p.good := by
      rcases chkP_cases p with ⟨e, _⟩ | ⟨_, ⟨e, _⟩ | ⟨_, g⟩⟩
      · rw [h7] at e; exact absurd e (by decide)
      · rw [h7] at e; exact absurd e (by decide)
      · exact g
    have HKI : Hid (p.kind = 0 ∨ p.kind = 1) := by
      rcases chkP_cases p with ⟨e, _⟩ | ⟨g, _⟩
      · rw [h7] at e; exact absurd e (by decide)
      · exact g
    obtain ⟨D, hD⟩ : ∃ D : Nat, D = p.dep.toNat := ⟨_, rfl⟩
    have HDP : Hid (p.dep = (D : Int)) := by have := HGD.out.1; show _ = _; omega
    have HD2 : Hid (D ≤ 256) := by have := HGD.out.2.1; have := HGD.out.1; show D ≤ 256; omega
    have HDD := Lib.hid hD
    obtain ⟨rt, hrt⟩ : ∃ rt, rt = rootP n p k := ⟨_, rfl⟩
    have HRO : Hid (∀ w m, Hs w b n m → m ≤ 500000 → Vars w → DS w A p.sib → Calls Tryd.prog 16 #[ptr b, .agg (pfC p (.slice A p.sib.length c)), .agg (bA k)] w fun e w' => ∃ m', e = .returned (.tuple #[.agg (bA rt), .int .i64 0]) ∧ m' ≤ m + (D + 2) ∧ Hs w' b n m' ∧ Keep (fun i => i = b) w w') := fun w m h1 h2 h3 h4 => by
      rw [hrt, hD]
      exact fo.root w b n m p A c k h1 h2 h3 HP.out h4 HC.out (by have := HL.out; omega) HK.out h7
    have HST : Hid (∀ w m, Hs w b n m → m ≤ 500000 → Vars w → DS w A p.sib → Calls Tryd.prog 15 #[ptr b, .agg (pfC p (.slice A p.sib.length c)), .agg (bA k)] w fun e w' => ∃ A' c' m', e = .returned (.tuple #[.slice A' (D + 1) c', .int .i64 0]) ∧ m' ≤ m + (D + 2) ∧ Hs w' b n m' ∧ Keep (fun i => i = b) w w') := fun w m h1 h2 h3 h4 => by
      have := fo.steps w b n m p A c k h1 h2 h3 HP.out h4 HC.out (by have := HL.out; omega) HK.out h7
      rw [stepL_len, ← hD] at this
      exact this.mono fun e w' ⟨A', c', m', h1, _, h3, h4, h5⟩ => ⟨A', c', m', h1, h3, h4, h5⟩
    clear h7 hrt hD b8
    go_wp2_with fail
    refine (HRO.out w1 0 HH1.out (by omega) HV1.out HA1.out).mono ?_
    rintro _ w2 ⟨m2, rfl, hm2, hH2, hK2⟩
    have HM2 := Lib.hid hm2
    have HB2 := Lib.hid (keep_new HB1.out HWN.out hK2)
    have HV2 := Lib.hid (HV1.out.hs HH1.out hK2)
    have HP2 := Lib.hid (HP1.out.keep hK2 (by have := HNB.out; omega))
    have HK2 := Lib.hid (RowB.keep16 HK1.out hK2 (by have := HNB.out; omega))
    have HA2 := Lib.hid (HA1.out.hs HH1.out hK2)
    have HH2 := Lib.hid hH2
    have HCA := Lib.hid (calls_c b n m2 w2 HH2.out)
    clear hm2 hH2 hK2 lp lk
    go_wp2_with fail
    refine HCA.out.mono ?_
    rintro _ _ ⟨rfl, rfl⟩
    have lp := HP2.out.ld HP.out
    have lk := HK2.out.ldKey HK.out
    clear HCA
    go_wp2_with fail
    refine (HST.out w2 m2 HH2.out (by have := HM2.out; have := HD2.out; omega) HV2.out HA2.out).mono ?_
    rintro _ w3 ⟨A3, c3, m3, rfl, hm3, hH3, hK3⟩
    have HM3 := Lib.hid hm3
    have HB3 := Lib.hid (keep_new HB2.out HWN.out hK3)
    have HV3 := Lib.hid (HV2.out.hs HH2.out hK3)
    have HP3 := Lib.hid (HP2.out.keep hK3 (by have := HNB.out; omega))
    have HK3 := Lib.hid (RowB.keep16 HK2.out hK3 (by have := HNB.out; omega))
    have HA3 := Lib.hid (HA2.out.hs HH2.out hK3)
    have HH3 := Lib.hid hH3
    have HAL : Hid (∀ x : Later w3, Calls Tryd.prog 9 #[] x.w fun e w' => e = .returned (.bool true) ∧ Below x.w.heap.size x.w w') := fun x => alive16_c fo _ (HV3.out.below x.h)
    have HCC : Hid (∀ x : Later w3, Calls Tryd.prog 24 #[ptr b] x.w fun e w' => e = .returned (.int .i64 (m3 : Int)) ∧ Below x.w.heap.size x.w w') := fun x => (calls_c b n m3 x.w (HH3.out.keep (Keep.of_below (L := fun _ => False) x.h) id)).mono fun e w' h => ⟨h.1, by rw [h.2]; exact Below.refl _ _⟩
    have ld : ∀ x : Later w3, x.w.cell? ⟨W.heap.size, 1, none⟩ = some (.int .i64 (D : Int)) := fun x => by
      have := (HP3.out.below x.h HP3.out.lt).dep
      rwa [HDP.out] at this
    have hq1 := HM2.out
    have hq2 := HM3.out
    have hq3 := HD2.out
    have hw0 : IntKind.i64.wrap ((D : Int) + 2) = (D : Int) + 2 := Bt.wrap_inr (by omega) (by omega)
    have hw1 : IntKind.i64.wrap ((m3 : Int) - (m2 : Int)) = (m3 : Int) - (m2 : Int) := Bt.wrap_inr (by omega) (by omega)
    have e1 : decide ((m2 : Int) ≤ (D : Int) + 2) = true := decide_eq_true (by omega)
    have e1' : decide (m2 ≤ D + 2) = true := decide_eq_true (by omega)
    have e2 : decide ((m3 : Int) - (m2 : Int) ≤ (D : Int) + 2) = true := decide_eq_true (by omega)
    clear hm3 hH3 hK3 lp lk hq1 hq2 hq3
    go_wp2_with fail
    refine wp_region_later (by kernel_rfl) (by kernel_rfl) ?_
    repeat (go_big_quiet_step ((first | (go_at_call 9; exact Later.call (HAL.out _)) | (go_at_call 24; exact Later.call (HCC.out _)))))
    refine wpQuiet_nil ?_
    rintro _ ⟨x, rfl⟩
    have HB7 := Lib.hid (keeps HB3.out x.h)
    clear ld hw0 hw1 e1 e1' e2
    go_wp2
    go_ret
    exact ⟨rfl, HB7.out⟩
  · have b8 : (z != 0) = true := by rw [HZ.out]; simpa using h7
    have HBx := Lib.hid (keeps HB.out hbx)
    have HVx := Lib.hid (HVX.out.below hbx)
    clear hbx hS lp0 h7
    go_wp2_with fail
    refine (alive16_c fo _ HVx.out).mono ?_
    rintro _ w4 ⟨rfl, hb⟩
    have HB4 := Lib.hid (keeps HBx.out hb)
    clear hb
    go_wp2
    go_ret
    exact ⟨rfl, HB4.out⟩
theorem works16_w (fo : FoV) (n : Int) (p : Pf) (A : Option Addr) (c : Nat) (k : List UInt8) (W : World) (hp : p.Ok) (hA : DS W A p.sib) (hc : p.sib.length ≤ c) (hk : k.length = 32) (hvx : Vars W) :
    Calls Tryd.prog 7 #[.int .i64 n, .agg (pfC p (.slice A p.sib.length c)), .agg (bA k)] W (Aye W) := by
  by_cases h : 300 < p.sib.length ∨ n < 0 ∨ 256 < n
  · exact foldworks16_out fo n p A c k W hp hvx h
  · exact foldworks16_in fo n p A c k W hp hA hc hk hvx (by omega) (by omega) (by omega)
end Go.Proofs.YtnmbbfndboohjaaDoor
