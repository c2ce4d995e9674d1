/- The functions of ProofChecks and ProofSupports return true, over contracts. -/
import Derived.Test.YtfeabjcnfgcmkaaDoorAi
namespace Go.Proofs.YtfeabjcnfgcmkaaDoor
open Go.RowKit

set_option maxHeartbeats 8000000 in
set_option maxRecDepth 100000 in
theorem checks15_w {M : World → Int → Tv → Prop} (nd : NdV M) (pv : PtV M) (pf : PfV M) (p : Pf) (A : Option Addr) (c : Nat) (W : World) (hp : p.Ok) (hA : DS W A p.sib) (hc : p.sib.length ≤ c) (hvx : Vars W) :
    Calls Tryd.prog 3 #[.agg (pfC p (.slice A p.sib.length c))] W (Aye W) := by
  obtain ⟨X, hX⟩ : ∃ X, X = W.alloc (.cells (pfC p (.slice A p.sib.length c)) 29) := ⟨_, rfl⟩
  have hB : Below W.heap.size W X := by rw [hX]; exact Bt.one_below _ _
  have hP : PfAt X W.heap.size p (.slice A p.sib.length c) := by rw [hX]; exact PfAt.one _ _ _
  have HB := Lib.hid hB
  have HVX := Lib.hid (hvx.below hB)
  have hS := hP.sib hp
  rw [hX] at hS
  have HX := Lib.hid hX
  by_cases h : 300 < p.sib.length
  · have d1 : decide ((300 : Int) < p.sib.length) = true := by simp; omega
    clear hB hP hp hA hX hc
    go_enter Tryd.func3, Tryd.ntmps3
    go_wp2_with fail
    rw [← HX.out]
    refine (alive15_c nd pv pf _ HVX.out).mono ?_
    rintro e w1 ⟨rfl, hb⟩
    have HB1 := Lib.hid (keeps HB.out hb)
    clear hb
    go_wp2
    go_ret
    exact ⟨rfl, HB1.out⟩
  · have d1 : decide ((300 : Int) < p.sib.length) = false := by simp; omega
    have la := fun x : Later X => (hP.below x.h hP.lt).ld hp
    have HAL : Hid (∀ x : Later X, Calls Tryd.prog 6 #[] x.w fun e w' => e = .returned (.bool true) ∧ Below x.w.heap.size x.w w') := fun x => alive15_c nd pv pf _ (HVX.out.below x.h)
    obtain ⟨z, hz⟩ : ∃ z, z = chkP p := ⟨_, rfl⟩
    have HCK : Hid (∀ x : Later X, Calls Tryd.prog 7 #[.agg (pfC p (.slice A p.sib.length c))] x.w fun e w' => e = .returned (.int .i64 z) ∧ Below x.w.heap.size x.w w') := fun x => by rw [hz]; exact pf.check _ p A c hp ((hA.below hB).below x.h) hc (by omega)
    have HRC : Hid (∀ x : Later X, Calls Tryd.prog 8 #[.agg (pfC p (.slice A p.sib.length c))] x.w fun e w' => e = .returned (.int .i64 z) ∧ Below x.w.heap.size x.w w') := fun x => by rw [hz]; exact rcheck_c p hp A c _
    have zz : (z == z) = true := by simp
    clear hB hP hp hA hX hc hz h
    go_enter Tryd.func3, Tryd.ntmps3
    go_wp2_with fail
    rw [← HX.out]
    refine wp_region_later (by kernel_rfl) (by kernel_rfl) ?_
    repeat (go_big_quiet_step ((first | (go_at_call 6; exact Later.call (HAL.out _)) | (go_at_call 7; exact Later.call (HCK.out _)) | (go_at_call 8; exact Later.call (HRC.out _)))))
    refine wpQuiet_nil ?_
    rintro _ ⟨x, rfl⟩
    have HB1 := Lib.hid (keeps HB.out x.h)
    clear la hS zz
    go_wp2
    go_ret
    exact ⟨rfl, HB1.out⟩
set_option maxHeartbeats 8000000 in
set_option maxRecDepth 100000 in
theorem supports15_w {M : World → Int → Tv → Prop} (nd : NdV M) (pv : PtV M) (pf : PfV M) (p : Pf) (A : Option Addr) (c : Nat) (k v : List UInt8) (W : World) (hp : p.Ok) (hk : k.length = 32) (hv : v.length = 32) (hvx : Vars W) :
    Calls Tryd.prog 4 #[.agg (pfC p (.slice A p.sib.length c)), .agg (bA k), .agg (bA v)] W (Aye W) := by
  obtain ⟨X, hX⟩ : ∃ X, X = ((W.alloc (.cells (pfC p (.slice A p.sib.length c)) 29)).alloc (.cells (bA k) 23)).alloc (.cells (bA v) 24) := ⟨_, rfl⟩
  have hB : Below W.heap.size W X := by rw [hX]; exact three_below _ _ _ _
  have hP : PfAt X W.heap.size p (.slice A p.sib.length c) := by
    rw [hX]
    exact ((PfAt.one W p _).below (Bt.one_below _ _) (by simp)).below (Bt.one_below _ _) (by simp; omega)
  have hK : X.heap[W.heap.size + 1]? = some (.cells (bA k) 23 (0, 0)) := by
    rw [hX, Below.heap_alloc _ _ _ (by simp)]
    exact heap_alloc2_new W _ _
  have hV : X.heap[W.heap.size + 1 + 1]? = some (.cells (bA v) 24 (0, 0)) := by
    have := heap_alloc_new ((W.alloc (.cells (pfC p (.slice A p.sib.length c)) 29)).alloc (.cells (bA k) 23)) (.cells (bA v) 24)
    rw [hX]
    simpa using this
  have HB := Lib.hid hB
  have HVX := Lib.hid (hvx.below hB)
  have hS := hP.sib hp
  rw [hX] at hS
  have HX := Lib.hid hX
  by_cases h : 300 < p.sib.length
  · have d1 : decide ((300 : Int) < p.sib.length) = true := by simp; omega
    clear hB hP hp hX hK hV
    go_enter Tryd.func4, Tryd.ntmps4
    go_wp2_with fail
    rw [← HX.out]
    refine (alive15_c nd pv pf _ HVX.out).mono ?_
    rintro e w1 ⟨rfl, hb⟩
    have HB1 := Lib.hid (keeps HB.out hb)
    clear hb
    go_wp2
    go_ret
    exact ⟨rfl, HB1.out⟩
  · have d1 : decide ((300 : Int) < p.sib.length) = false := by simp; omega
    have la := fun x : Later X => (hP.below x.h hP.lt).ld hp
    have lk := fun x : Later X => show ldA 23 x.w (.pointer (some ⟨W.heap.size + 1, 0, none⟩)) = .ok (.value (.agg (bA k))) x.w from RowB.ldKey (x.block hK) hk
    have lv := fun x : Later X => show ldA 24 x.w (.pointer (some ⟨W.heap.size + 1 + 1, 0, none⟩)) = .ok (.value (.agg (bA v))) x.w from RowB.ldDig (x.block hV) hv
    have HLA := Lib.hid la
    have HLK := Lib.hid lk
    have HLV := Lib.hid lv
    obtain ⟨y, hy⟩ : ∃ y, y = supYes p k v := ⟨_, rfl⟩
    obtain ⟨n, hn⟩ : ∃ n, n = supNo p k := ⟨_, rfl⟩
    have hyn : (y && n) = false := by rw [hy, hn]; exact sup_both p k v
    have HYN := Lib.hid hyn
    clear hyn
    have HSP : Hid (∀ (x : Later X) (q : Bool), Calls Tryd.prog 9 #[.agg (pfC p (.slice A p.sib.length c)), .agg (bA k), .agg (bA v), .bool q] x.w fun e w' => e = .returned (.bool (supP p k v q)) ∧ Below x.w.heap.size x.w w') := fun x q => pf.supports _ p A c k v q hp hk hv
    have s1 : supP p k v true = y := by rw [hy]; exact supP_yes p k v
    have s2 : supP p k v false = n := by rw [hn]; exact supP_no p k v
    have HR1 : Hid (∀ w, Calls Tryd.prog 10 #[.agg (pfC p (.slice A p.sib.length c)), .agg (bA k), .agg (bA v), .bool true] w fun e w' => e = .returned (.bool y) ∧ Below w.heap.size w w') := fun w => by rw [hy]; exact rsup_yes p hp _ k v hk hv w
    have HR2 : Hid (∀ w, Calls Tryd.prog 10 #[.agg (pfC p (.slice A p.sib.length c)), .agg (bA k), .agg (bA v), .bool false] w fun e w' => e = .returned (.bool n) ∧ Below w.heap.size w w') := fun w => by rw [hn]; exact rsup_no p hp _ k v hk hv w
    clear hB hP hp hX hK hV hy hn h
    go_enter Tryd.func4, Tryd.ntmps4
    go_wp2_with fail
    rw [← HX.out]
    refine wp_region_later (by kernel_rfl) (by kernel_rfl) ?_
    repeat (go_big_quiet_step ((go_at_call 9; exact Later.call (HSP.out _ _))))
    refine wpQuiet_nil ?_
    rintro _ ⟨x, rfl⟩
    have HV1 := Lib.hid (HVX.out.below x.h)
    have HX1 := Lib.hid (show Below X.heap.size X x.w from x.h)
    clear la lk lv hS
    go_wp2_with fail
    refine (alive15_c nd pv pf _ HV1.out).mono ?_
    rintro e w1 ⟨rfl, hb⟩
    have HX2 := Lib.hid (keeps HX1.out hb)
    have la := HLA.out ⟨w1, HX2.out⟩
    have lk := HLK.out ⟨w1, HX2.out⟩
    have lv := HLV.out ⟨w1, HX2.out⟩
    have yy : (y == y) = true := by simp
    have nn : (n == n) = true := by simp
    clear hb
    go_wp2_with fail
    refine (HR1.out _).mono ?_
    rintro e w2 ⟨rfl, hb⟩
    have HX3 := Lib.hid (keeps HX2.out hb)
    have la := HLA.out ⟨w2, HX3.out⟩
    have lk := HLK.out ⟨w2, HX3.out⟩
    have lv := HLV.out ⟨w2, HX3.out⟩
    clear hb
    go_wp2_with fail
    refine (HR2.out _).mono ?_
    rintro e w3 ⟨rfl, hb⟩
    have HX4 := Lib.hid (keeps HX3.out hb)
    clear hb la lk lv
    go_wp2
    all_goals
      go_ret
      refine ⟨ret_b15 ?_, keeps HB.out HX4.out⟩
      have := HYN.out
      simp_all
end Go.Proofs.YtfeabjcnfgcmkaaDoor
