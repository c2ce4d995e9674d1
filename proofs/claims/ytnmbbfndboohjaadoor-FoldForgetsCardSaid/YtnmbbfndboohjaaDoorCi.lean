/- The function of FoldForgets returns true, over contracts (by program: gen-tpl16-laws.py). -/
import Derived.BigQuiet
import Derived.Test.YtnmbbfndboohjaaDoorCD
import Derived.Test.YtnmbbfndboohjaaDoorMD
import Derived.Test.YtnmbbfndboohjaaDoorMO
namespace Go.Proofs.YtnmbbfndboohjaaDoor
open Go.RowKit

theorem two_keys16 {w : World} {g : Nat} {t : TypeId} {fr : Nat × Nat} {k0 k1 : List UInt8} (h : w.heap[g]? = some (.cells (bA (k0 ++ k1)) t fr)) (h0 : k0.length = 32) (h1 : k1.length = 32) :
    ldA 23 w (.pointer (some ⟨g, 0, none⟩)) = .ok (.value (.agg (bA k0))) w ∧ ldA 23 w (.pointer (some ⟨g, 32, none⟩)) = .ok (.value (.agg (bA k1))) w := by
  have e : bA (k0 ++ k1) = (k0.map bv ++ k1.map bv).toArray := by simp [bA]
  rw [e] at h
  have r0 := range_mid (pre := []) (mid := k0.map bv) (post := k1.map bv) h
  have r1 := range_mid (pre := k0.map bv) (mid := k1.map bv) (post := []) (by rw [List.append_nil]; exact h)
  rw [List.length_map, h0] at r1
  exact ⟨ldA_of (t := 23) r0 Tryd.underlying23 (by rw [List.length_map, h0]; exact infoKey), ldA_of (t := 23) r1 Tryd.underlying23 (by rw [List.length_map, h1]; exact infoKey)⟩
set_option linter.unusedSimpArgs false in
set_option maxHeartbeats 16000000 in
set_option maxRecDepth 100000 in
theorem foldforgets16_out (fo : FoV) (n : Int) (p : Pf) (A : Option Addr) (c : Nat) (k0 k1 : List UInt8) (W : World) (hp : p.Ok) (hk0 : k0.length = 32) (hk1 : k1.length = 32) (hvx : Vars W) (h : 300 < p.sib.length ∨ n < 0 ∨ 256 < n ∨ (comK k0 k1 : Int) < p.dep) :
    Calls Tryd.prog 6 #[.int .i64 n, .agg (pfC p (.slice A p.sib.length c)), .agg (bA (k0 ++ k1))] W (Aye W) := by
  obtain ⟨X, hX⟩ : ∃ X, X = (W.alloc (.cells (pfC p (.slice A p.sib.length c)) 29)).alloc (.cells (bA (k0 ++ k1)) 54) := ⟨_, rfl⟩
  have hB : Below W.heap.size W X := by rw [hX]; exact Bt.two_below _ _ _
  have hP : PfAt X W.heap.size p (.slice A p.sib.length c) := by rw [hX]; exact (PfAt.one W p _).below (Bt.one_below _ _) (by simp)
  have hKR : X.heap[W.heap.size + 1]? = some (.cells (bA (k0 ++ k1)) 54 (0, 0)) := by rw [hX]; exact heap_alloc2_new W _ _
  have ls := fun x : Later X => (hP.below x.h hP.lt).sib hp
  have ld := fun x : Later X => (hP.below x.h hP.lt).dep
  have l0 := fun x : Later X => (two_keys16 (x.block hKR) hk0 hk1).1
  have l1 := fun x : Later X => (two_keys16 (x.block hKR) hk0 hk1).2
  have HB := Lib.hid hB
  have HVX := Lib.hid (hvx.below hB)
  have HX := Lib.hid hX
  have HCM : Hid (∀ x : Later X, Calls Tryd.prog 23 #[.agg (bA k0), .agg (bA k1)] x.w fun e w' => e = .returned (.int .i64 (comK k0 k1)) ∧ Below x.w.heap.size x.w w') := fun x => comK_c k0 k1 hk0 hk1 x.w
  obtain ⟨m, hm⟩ : ∃ m, m = comK k0 k1 := ⟨_, rfl⟩
  rw [← hm] at HCM
  by_cases h1 : n < 0 ∨ 256 < n
  · skip
    have HR : Hid (∀ x : Later X, Calls Tryd.prog 8 #[.int .i64 n] x.w fun e w' => e = .returned (.bool false) ∧ Below x.w.heap.size x.w w') := fun x => by
      have := right5_c n x.w
      rw [decide_eq_false (by omega)] at this
      exact this.mono fun e w' h => ⟨h.1, by rw [← h.2]; exact Below.refl _ _⟩
    clear hB hX hp h h1 hvx hP hKR hm hk0 hk1
    go_enter Tryd.func6, Tryd.ntmps6
    go_wp2_with fail
    rw [← HX.out]
    refine wp_region_later (by kernel_rfl) (by kernel_rfl) ?_
    repeat (go_big_quiet_step ((first | (go_at_call 8; exact Later.call (HR.out _)) | (go_at_call 23; exact Later.call (HCM.out _)))))
    refine wpQuiet_nil ?_
    rintro _ ⟨x, rfl⟩
    have HB0 := Lib.hid (keeps HB.out x.h)
    have HV0 := Lib.hid (HVX.out.below x.h)
    clear ls ld l0 l1
    go_wp2_with fail
    refine (alive16_c fo _ HV0.out).mono ?_
    rintro e w1 ⟨rfl, hb⟩
    have HB1 := Lib.hid (keeps HB0.out hb)
    clear hb
    go_wp2
    go_ret
    exact ⟨rfl, HB1.out⟩
  · skip
    have HR : Hid (∀ x : Later X, Calls Tryd.prog 8 #[.int .i64 n] x.w fun e w' => e = .returned (.bool true) ∧ Below x.w.heap.size x.w w') := fun x => by
      have := right5_c n x.w
      rw [decide_eq_true (by omega)] at this
      exact this.mono fun e w' h => ⟨h.1, by rw [← h.2]; exact Below.refl _ _⟩
    by_cases h2 : 300 < p.sib.length
    · have d1 : decide ((300 : Int) < p.sib.length) = true := by simp; omega
      clear hB hX hp h h1 h2 hvx hP hKR hm hk0 hk1
      go_enter Tryd.func6, Tryd.ntmps6
      go_wp2_with fail
      rw [← HX.out]
      refine wp_region_later (by kernel_rfl) (by kernel_rfl) ?_
      repeat (go_big_quiet_step ((first | (go_at_call 8; exact Later.call (HR.out _)) | (go_at_call 23; exact Later.call (HCM.out _)))))
      refine wpQuiet_nil ?_
      rintro _ ⟨x, rfl⟩
      have HB0 := Lib.hid (keeps HB.out x.h)
      have HV0 := Lib.hid (HVX.out.below x.h)
      clear ls ld l0 l1
      go_wp2_with fail
      refine (alive16_c fo _ HV0.out).mono ?_
      rintro e w1 ⟨rfl, hb⟩
      have HB1 := Lib.hid (keeps HB0.out hb)
      clear hb
      go_wp2
      go_ret
      exact ⟨rfl, HB1.out⟩
    · have d1 : decide ((300 : Int) < p.sib.length) = false := by simp; omega
      have d2 : decide ((m : Int) < p.dep) = true := decide_eq_true (by rw [hm]; omega)
      clear hB hX hp h h1 h2 hvx hP hKR hm hk0 hk1
      go_enter Tryd.func6, Tryd.ntmps6
      go_wp2_with fail
      rw [← HX.out]
      refine wp_region_later (by kernel_rfl) (by kernel_rfl) ?_
      repeat (go_big_quiet_step ((first | (go_at_call 8; exact Later.call (HR.out _)) | (go_at_call 23; exact Later.call (HCM.out _)))))
      refine wpQuiet_nil ?_
      rintro _ ⟨x, rfl⟩
      have HB0 := Lib.hid (keeps HB.out x.h)
      have HV0 := Lib.hid (HVX.out.below x.h)
      clear ls ld l0 l1
      go_wp2_with fail
      refine (alive16_c fo _ HV0.out).mono ?_
      rintro e w1 ⟨rfl, hb⟩
      have HB1 := Lib.hid (keeps HB0.out hb)
      clear hb
      go_wp2
      go_ret
      exact ⟨rfl, HB1.out⟩
set_option linter.unusedSimpArgs false in
set_option maxHeartbeats 16000000 in
set_option maxRecDepth 100000 in
theorem foldforgets16_in (fo : FoV) (n : Int) (p : Pf) (A : Option Addr) (c : Nat) (k0 k1 : List UInt8) (W : World) (hp : p.Ok) (hA : DS W A p.sib) (hc : p.sib.length ≤ c) (hk0 : k0.length = 32) (hk1 : k1.length = 32) (hvx : Vars W) (hl : p.sib.length ≤ 300) (h0 : 0 ≤ n) (h1 : n ≤ 256) (hcm : p.dep ≤ (comK k0 k1 : Int)) :
    Calls Tryd.prog 6 #[.int .i64 n, .agg (pfC p (.slice A p.sib.length c)), .agg (bA (k0 ++ k1))] W (Aye W) := by
  obtain ⟨X, hX⟩ : ∃ X, X = (W.alloc (.cells (pfC p (.slice A p.sib.length c)) 29)).alloc (.cells (bA (k0 ++ k1)) 54) := ⟨_, rfl⟩
  have hB : Below W.heap.size W X := by rw [hX]; exact Bt.two_below _ _ _
  have hP : PfAt X W.heap.size p (.slice A p.sib.length c) := by rw [hX]; exact (PfAt.one W p _).below (Bt.one_below _ _) (by simp)
  have hKR : X.heap[W.heap.size + 1]? = some (.cells (bA (k0 ++ k1)) 54 (0, 0)) := by rw [hX]; exact heap_alloc2_new W _ _
  have ls := fun x : Later X => (hP.below x.h hP.lt).sib hp
  have ld := fun x : Later X => (hP.below x.h hP.lt).dep
  have l0 := fun x : Later X => (two_keys16 (x.block hKR) hk0 hk1).1
  have l1 := fun x : Later X => (two_keys16 (x.block hKR) hk0 hk1).2
  have HB := Lib.hid hB
  have HVX := Lib.hid (hvx.below hB)
  have HX := Lib.hid hX
  have HCM : Hid (∀ x : Later X, Calls Tryd.prog 23 #[.agg (bA k0), .agg (bA k1)] x.w fun e w' => e = .returned (.int .i64 (comK k0 k1)) ∧ Below x.w.heap.size x.w w') := fun x => comK_c k0 k1 hk0 hk1 x.w
  obtain ⟨m, hm⟩ : ∃ m, m = comK k0 k1 := ⟨_, rfl⟩
  rw [← hm] at HCM
  have d1 : decide ((300 : Int) < p.sib.length) = false := by simp; omega
  have d2 : decide ((m : Int) < p.dep) = false := decide_eq_false (by rw [hm]; omega)
  have HR : Hid (∀ x : Later X, Calls Tryd.prog 8 #[.int .i64 n] x.w fun e w' => e = .returned (.bool true) ∧ Below x.w.heap.size x.w w') := fun x => by
    have := right5_c n x.w
    rw [decide_eq_true (by omega)] at this
    exact this.mono fun e w' h => ⟨h.1, by rw [← h.2]; exact Below.refl _ _⟩
  have HPX := Lib.hid hP
  have HKX := Lib.hid hKR
  have HAX := Lib.hid (hA.below hB)
  have HPO := Lib.hid hp
  have HKL0 := Lib.hid hk0
  have HKL1 := Lib.hid hk1
  obtain ⟨v, e0, hve⟩ : ∃ (v : List UInt8) (e0 : Int), ∀ k, k = k0 ∨ k = k1 → (chkP p = 0 ∧ v = rootP n p k ∧ e0 = 0) ∨ (chkP p ≠ 0 ∧ v = z26 ∧ e0 = chkP p) := by
    by_cases h7 : chkP p = 0
    · have hgd : p.good := by
        rcases chkP_cases p with ⟨e, _⟩ | ⟨_, ⟨e, _⟩ | ⟨_, g⟩⟩
        · rw [h7] at e; exact absurd e (by decide)
        · rw [h7] at e; exact absurd e (by decide)
        · exact g
      refine ⟨rootP n p k0, 0, fun k hk => .inl ⟨h7, ?_, rfl⟩⟩
      rcases hk with rfl | rfl
      · rfl
      · exact rootP_bits hgd hcm
    · exact ⟨z26, chkP p, fun k _ => .inr ⟨h7, rfl, rfl⟩⟩
  have HVL : Hid (v.length = 32) := by
    rcases hve k0 (.inl rfl) with ⟨_, h, _⟩ | ⟨_, h, _⟩
    · show _ = _; rw [h]; exact dig_len _ _
    · show _ = _; rw [h]; rfl
  have HRO : Hid (∀ w {b : Nat} m k, Hs w b n m → m ≤ 500000 → Vars w → DS w A p.sib → (k = k0 ∨ k = k1) → Calls Tryd.prog 16 #[ptr b, .agg (pfC p (.slice A p.sib.length c)), .agg (bA k)] w fun e w' => ∃ m', e = .returned (.tuple #[.agg (bA v), .int .i64 e0]) ∧ m' ≤ m + 1000 ∧ Hs w' b n m' ∧ Keep (fun i => i = b) w w') := fun w b m k g1 g2 g3 g4 g5 => by
    have hkl : k.length = 32 := by rcases g5 with rfl | rfl; exact hk0; exact hk1
    rcases hve k g5 with ⟨h7, e1, e2⟩ | ⟨h7, e1, e2⟩
    · rw [e1, e2]
      have hgd : p.good := by
        rcases chkP_cases p with ⟨e, _⟩ | ⟨_, ⟨e, _⟩ | ⟨_, g⟩⟩
        · rw [h7] at e; exact absurd e (by decide)
        · rw [h7] at e; exact absurd e (by decide)
        · exact g
      exact (fo.root w b n m p A c k g1 g2 g3 hp g4 hc (by omega) hkl h7).mono fun e w' ⟨m', j1, j2, j3, j4⟩ => ⟨m', j1, by have := hgd.2.1; omega, j3, j4⟩
    · rw [e1, e2]
      exact fo.rootBad w b n m p A c k g1 g2 g3 hp g4 hc (by omega) hkl h7
  have HNN := Lib.hid (And.intro h0 h1)
  clear hB hX hp h0 h1 hvx hP hKR hm hk0 hk1 hA hc hl hcm hve
  go_enter Tryd.func6, Tryd.ntmps6
  go_wp2_with fail
  rw [← HX.out]
  refine wp_region_later (by kernel_rfl) (by kernel_rfl) ?_
  repeat (go_big_quiet_step ((first | (go_at_call 8; exact Later.call (HR.out _)) | (go_at_call 23; exact Later.call (HCM.out _)))))
  refine wpQuiet_nil ?_
  rintro _ ⟨x, rfl⟩
  have HB0 := Lib.hid (keeps HB.out x.h)
  have HV0 := Lib.hid (HVX.out.below x.h)
  have HP0 := Lib.hid (HPX.out.below x.h HPX.out.lt)
  have HK0 := Lib.hid (x.block HKX.out)
  have HA0 := Lib.hid (HAX.out.below x.h)
  have HH := Lib.hid (hash_in n x.w HNN.out.1 HNN.out.2)
  clear ls ld l0 l1
  go_wp2_with fail
  refine HH.out.mono ?_
  rintro _ w1 ⟨b, rfl, hb, hH, hB1⟩
  have HB1 := Lib.hid (keeps HB0.out hB1)
  have HV1 := Lib.hid (HV0.out.below hB1)
  have HP1 := Lib.hid (HP0.out.below hB1 HP0.out.lt)
  have HK1 : Hid (w1.heap[W.heap.size + 1]? = some (.cells (bA (k0 ++ k1)) 54 (0, 0))) := by show _ = _; rw [hB1.block _ (lt_of_heap HK0.out)]; exact HK0.out
  have HA1 := Lib.hid (HA0.out.below hB1)
  have HH1 := Lib.hid hH
  have HNB : Hid (W.heap.size + 1 < b) := Nat.lt_of_lt_of_le (lt_of_heap HK0.out) hb
  have HWN : Hid (W.heap.size ≤ b) := by have := HNB.out; show _ ≤ _; omega
  have lp := HP1.out.ld HPO.out
  have l0 := (two_keys16 HK1.out HKL0.out HKL1.out).1
  clear hb hH hB1 HH
  go_wp2_with fail
  refine (HRO.out w1 0 k0 HH1.out (by omega) HV1.out HA1.out (.inl rfl)).mono ?_
  rintro _ w2 ⟨m2, rfl, hm2, hH2, hK2⟩
  have HM2 := Lib.hid hm2
  have HB2 := Lib.hid (keep_new HB1.out HWN.out hK2)
  have HV2 := Lib.hid (HV1.out.hs HH1.out hK2)
  have HP2 := Lib.hid (HP1.out.keep hK2 (by have := HNB.out; omega))
  have HK2 : Hid (w2.heap[W.heap.size + 1]? = some (.cells (bA (k0 ++ k1)) 54 (0, 0))) := hK2.heap HK1.out (by have := HNB.out; omega)
  have HA2 := Lib.hid (HA1.out.hs HH1.out hK2)
  have HH2 := Lib.hid hH2
  have HN2 : Hid (¬ w2.heap.size = b) := fun e => by have := lt_of_heap hH2; omega
  clear hm2 hH2 hK2
  have st := stA_new (t := 24) w2 (bA z26) (bA v) (by rw [bA_size, HVL.out]; exact info26) (by rw [bA_size, bA_size, HVL.out]; rfl) (bA_one _)
  obtain ⟨w3, hw3⟩ : ∃ w, w = w2.alloc (.cells (bA v) 24) := ⟨_, rfl⟩
  have hb3 : Below w2.heap.size w2 w3 := by rw [hw3]; exact Bt.one_below _ _
  have HR3 : Hid (w3.heap[w2.heap.size]? = some (.cells (bA v) 24 (0, 0))) := by show _ = _; rw [hw3]; exact heap_alloc_new w2 _
  rw [← hw3] at st
  have HW3 := Lib.hid hw3
  have HB3 := Lib.hid (keeps HB2.out hb3)
  have HV3 := Lib.hid (HV2.out.below hb3)
  have HP3 := Lib.hid (HP2.out.below hb3 HP2.out.lt)
  have HK3 : Hid (w3.heap[W.heap.size + 1]? = some (.cells (bA (k0 ++ k1)) 54 (0, 0))) := by show _ = _; rw [hb3.block _ (lt_of_heap HK2.out)]; exact HK2.out
  have HA3 := Lib.hid (HA2.out.below hb3)
  have HH3 := Lib.hid (HH2.out.keep (Keep.of_below (L := fun _ => False) hb3) id)
  have lp := HP3.out.ld HPO.out
  have l1 := (two_keys16 HK3.out HKL0.out HKL1.out).2
  clear hb3 hw3 l0
  go_wp2_with fail
  clear st
  refine (HRO.out w3 m2 k1 HH3.out (by have := HM2.out; omega) HV3.out HA3.out (.inr rfl)).mono ?_
  rintro _ w4 ⟨m4, rfl, hm4, hH4, hK4⟩
  have HB4 := Lib.hid (keep_new HB3.out HWN.out hK4)
  have HV4 := Lib.hid (HV3.out.hs HH3.out hK4)
  have HR34 : Hid (w4.heap[w2.heap.size]? = some (.cells (bA v) 24 (0, 0))) := hK4.heap HR3.out HN2.out
  clear hm4 hH4 hK4 lp l1
  have st := stA_new (t := 24) w4 (bA z26) (bA v) (by rw [bA_size, HVL.out]; exact info26) (by rw [bA_size, bA_size, HVL.out]; rfl) (bA_one _)
  obtain ⟨w5, hw5⟩ : ∃ w, w = w4.alloc (.cells (bA v) 24) := ⟨_, rfl⟩
  have hb5 : Below w4.heap.size w4 w5 := by rw [hw5]; exact Bt.one_below _ _
  have HR5 : Hid (w5.heap[w4.heap.size]? = some (.cells (bA v) 24 (0, 0))) := by show _ = _; rw [hw5]; exact heap_alloc_new w4 _
  rw [← hw5] at st
  have HW5 := Lib.hid hw5
  have HB5 := Lib.hid (keeps HB4.out hb5)
  have HV5 := Lib.hid (HV4.out.below hb5)
  have HR35 : Hid (w5.heap[w2.heap.size]? = some (.cells (bA v) 24 (0, 0))) := by show _ = _; rw [hb5.block _ (lt_of_heap HR34.out)]; exact HR34.out
  clear hb5 hw5
  go_wp2_with fail
  clear st
  refine (alive16_c fo _ HV5.out).mono ?_
  rintro _ w6 ⟨rfl, hb⟩
  have HB6 := Lib.hid (keeps HB5.out hb)
  have q1 : w6.heap[w2.heap.size]? = some (.cells (bA v) 24 (0, 0)) := (hb.block _ (lt_of_heap HR35.out)).trans HR35.out
  have q2 : w6.heap[w4.heap.size]? = some (.cells (bA v) 24 (0, 0)) := (hb.block _ (lt_of_heap HR5.out)).trans HR5.out
  have lz1 : ldA 24 w6 (.pointer (some ⟨w2.heap.size, 0, none⟩)) = .ok (.value (.agg (bA v))) w6 := RowB.ldDig q1 HVL.out
  have lz2 : ldA 24 w6 (.pointer (some ⟨w4.heap.size, 0, none⟩)) = .ok (.value (.agg (bA v))) w6 := RowB.ldDig q2 HVL.out
  have el := fun x y w => eqDig v v HVL.out HVL.out x y w
  rw [decide_eq_true (rfl : v = v)] at el
  have ee : (e0 == e0) = true := by simp
  clear hb q1 q2
  go_wp2
  go_ret
  exact ⟨rfl, HB6.out⟩
theorem forgets16_w (fo : FoV) (n : Int) (p : Pf) (A : Option Addr) (c : Nat) (k0 k1 : List UInt8) (W : World) (hp : p.Ok) (hA : DS W A p.sib) (hc : p.sib.length ≤ c) (hk0 : k0.length = 32) (hk1 : k1.length = 32) (hvx : Vars W) :
    Calls Tryd.prog 6 #[.int .i64 n, .agg (pfC p (.slice A p.sib.length c)), .agg (bA (k0 ++ k1))] W (Aye W) := by
  by_cases h : 300 < p.sib.length ∨ n < 0 ∨ 256 < n ∨ (comK k0 k1 : Int) < p.dep
  · exact foldforgets16_out fo n p A c k0 k1 W hp hk0 hk1 hvx h
  · exact foldforgets16_in fo n p A c k0 k1 W hp hA hc hk0 hk1 hvx (by omega) (by omega) (by omega) (by omega)
end Go.Proofs.YtnmbbfndboohjaaDoor
