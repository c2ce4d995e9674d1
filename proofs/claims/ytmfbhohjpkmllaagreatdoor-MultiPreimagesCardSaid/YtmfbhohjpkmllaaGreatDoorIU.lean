import Derived.Test.YtmfbhohjpkmllaaGreatDoorIS
import Derived.Test.YtmfbhohjpkmllaaGreatDoorIF
namespace Go.Proofs.YtmfbhohjpkmllaaGreatDoor
set_option linter.unusedSimpArgs false
set_option linter.unusedVariables false
set_option maxHeartbeats 16000000
set_option maxRecDepth 100000
section
open Go.RowKit
theorem pres19_out (al : Alive19) (n : Int) (A : Option Addr) (l : List It) (c : Nat) (k : List UInt8) (W : World) (hv : Vars W) (h : n < 0 ∨ 256 < n) :
  Calls Tryz.prog 7 #[.int .i64 n, .slice A l.length c, .agg (bA k)] W (Aye W) := by
 obtain ⟨X, hX⟩ : ∃ X, X = W.alloc (.cells (bA k) 39) := ⟨_, rfl⟩
 have hb0 : Below W.heap.size W X := by rw [hX]; exact Bt.one_below _ _
 have HB0 := Lib.hid hb0
 have HX := Lib.hid hX
 have HVX := Lib.hid (hv.below hb0)
 have HAL := Lib.hid al
 have HR : Hid (∀ w, Calls Tryz.prog 20 #[.int .i64 n] w fun e w' => e = .returned (.bool false) ∧ w = w') := fun w => by
  have := right5_c n w
  rwa [decide_eq_false (by omega)] at this
 clear hX hb0 hv al h
 go_enter Tryz.func7, Tryz.ntmps7
 go_wp2_with fail
 rw [← HX.out]
 refine (HR.out X).mono ?_
 rintro _ _ ⟨rfl, rfl⟩
 go_wp2_with fail
 refine (HAL.out X HVX.out).mono ?_
 rintro _ w4 ⟨rfl, hb⟩
 have HB := Lib.hid (keeps HB0.out hb)
 clear hb
 go_wp2_with fail
 go_ret
 exact ⟨rfl, HB.out⟩
theorem pres19_far (al : Alive19) (n : Int) (A : Option Addr) (l : List It) (c : Nat) (k : List UInt8) (W : World) (hv : Vars W) (h0 : 0 ≤ n) (h1 : n ≤ 256) (h : ¬ l.length ≤ 1200) :
  Calls Tryz.prog 7 #[.int .i64 n, .slice A l.length c, .agg (bA k)] W (Aye W) := by
 obtain ⟨X, hX⟩ : ∃ X, X = W.alloc (.cells (bA k) 39) := ⟨_, rfl⟩
 have hb0 : Below W.heap.size W X := by rw [hX]; exact Bt.one_below _ _
 have HB0 := Lib.hid hb0
 have HX := Lib.hid hX
 have HVX := Lib.hid (hv.below hb0)
 have HAL := Lib.hid al
 have HR : Hid (∀ w, Calls Tryz.prog 20 #[.int .i64 n] w fun e w' => e = .returned (.bool true) ∧ w = w') := fun w => by
  have := right5_c n w
  rwa [decide_eq_true ⟨h0, h1⟩] at this
 have HF := Lib.hid (few19_no l.length c A X h)
 clear hX hb0 hv al h h0 h1
 go_enter Tryz.func7, Tryz.ntmps7
 go_wp2_with fail
 rw [← HX.out]
 refine (HR.out X).mono ?_
 rintro _ _ ⟨rfl, rfl⟩
 go_wp2_with fail
 refine HF.out.mono ?_
 rintro _ _ ⟨rfl, rfl⟩
 go_wp2_with fail
 refine (HAL.out _ HVX.out).mono ?_
 rintro _ w4 ⟨rfl, hb⟩
 have HB := Lib.hid (keeps HB0.out hb)
 clear hb
 go_wp2_with fail
 go_ret
 exact ⟨rfl, HB.out⟩
theorem pres19_form {M : World → Int → Tv → Prop} (mu : MuV M) (al : Alive19) (n : Int) (A : Option Addr) (l : List It) (c : Nat) (k : List UInt8) (W : World) (hv : Vars W) (hA : IA W A l) (hc : l.length ≤ c) (hk : k.length = 32) (h0 : 0 ≤ n) (h1 : n ≤ 256) (h : l.length ≤ 1200) (hz : chkI l ≠ 0) :
  Calls Tryz.prog 7 #[.int .i64 n, .slice A l.length c, .agg (bA k)] W (Aye W) := by
 obtain ⟨X, hX⟩ : ∃ X, X = W.alloc (.cells (bA k) 39) := ⟨_, rfl⟩
 have hb0 : Below W.heap.size W X := by rw [hX]; exact Bt.one_below _ _
 have HB0 := Lib.hid hb0
 have HX := Lib.hid hX
 have HVX := Lib.hid (hv.below hb0)
 have HAL := Lib.hid al
 have HR : Hid (∀ w, Calls Tryz.prog 20 #[.int .i64 n] w fun e w' => e = .returned (.bool true) ∧ w = w') := fun w => by
  have := right5_c n w
  rwa [decide_eq_true ⟨h0, h1⟩] at this
 have HF := Lib.hid (few19_yes l.length c A X h)
 have HA := Lib.hid (hA.below hb0)
 have HC := Lib.hid hc
 have HK := Lib.hid hk
 have HL : Hid (l.length ≤ 1200) := h
 have HL6 : Hid (l.length ≤ 1000000) := Nat.le_trans h (by decide)
 have HH := Lib.hid (hash_in n X h0 h1)
 have HRK : Hid (X.heap[W.heap.size]? = some (.cells (bA k) 39 (0, 0))) := by show _ = _; rw [hX]; exact heap_alloc_new W _
 have HLK : Hid (∀ y, Below X.heap.size X y → ldA 39 y (.pointer (some ⟨W.heap.size, 0, none⟩)) = .ok (.value (.agg (bA k))) y) := fun y hy =>
  ldA_row ((hy.block _ (lt_of_heap HRK.out)).trans HRK.out) Tryz.underlying39 (by rw [bA_size, HK.out]; exact infoKey)
 obtain ⟨z, hzz⟩ : ∃ z, z = chkI l := ⟨_, rfl⟩
 have HZ := Lib.hid hzz
 rw [← hzz] at hz
 clear hX hb0 hv al h h0 h1 hA hc hk hzz
 go_enter Tryz.func7, Tryz.ntmps7
 go_wp2_with fail
 rw [← HX.out]
 refine (HR.out X).mono ?_
 rintro _ _ ⟨rfl, rfl⟩
 go_wp2_with fail
 refine HF.out.mono ?_
 rintro _ _ ⟨rfl, rfl⟩
 go_wp2_with fail
 refine HH.out.mono ?_
 rintro _ w1 ⟨b, rfl, hbn, hH, hB1⟩
 have HB1 := Lib.hid hB1
 have HBN := Lib.hid hbn
 have HH1 := Lib.hid hH
 have l1 := HLK.out w1 HB1.out
 have HPB := mu.preBad w1 b n 0 l A c k HH1.out (by decide) (HVX.out.below HB1.out) (HA.out.below HB1.out) HC.out HL.out HK.out (by rw [← HZ.out]; exact hz)
 rw [← HZ.out] at HPB
 have HPB := Lib.hid HPB
 clear hbn hH hB1 HH
 go_wp2_with fail
 refine HPB.out.mono ?_
 rintro _ w2 ⟨A', c', m', rfl, hH2, hk2⟩
 have HB2 := Lib.hid (keep_new HB1.out HBN.out hk2)
 have HCK := rcheck19_c A c l w2 (HA.out.below HB2.out) HL6.out
 rw [← HZ.out] at HCK
 have HCK := Lib.hid HCK
 clear hH2 hk2 HPB l1
 go_wp2_with fail
 refine HCK.out.mono ?_
 rintro _ w3 ⟨rfl, hb3⟩
 have HB3 := Lib.hid (keeps HB2.out hb3)
 clear hb3 HCK
 go_wp2_with fail
 refine (HAL.out w3 (HVX.out.below HB3.out)).mono ?_
 rintro _ w4 ⟨rfl, hb4⟩
 have HB4 := Lib.hid (keeps HB3.out hb4)
 clear hb4
 go_wp2_with fail
 go_ret
 exact ⟨rfl, keeps HB0.out HB4.out⟩
theorem pres19_not {M : World → Int → Tv → Prop} (mu : MuV M) (al : Alive19) (n : Int) (A : Option Addr) (l : List It) (t : Mt) (hg : t.Good) (ht : l = t.flat) (c : Nat) (k : List UInt8) (W : World) (hv : Vars W) (hA : IA W A l) (hc : l.length ≤ c) (hk : k.length = 32) (h0 : 0 ≤ n) (h1 : n ≤ 256) (h : l.length ≤ 1200) (hz : chkI l = 0) (h3 : (finM k t 0).k = 3) :
  Calls Tryz.prog 7 #[.int .i64 n, .slice A l.length c, .agg (bA k)] W (Aye W) := by
 obtain ⟨X, hX⟩ : ∃ X, X = W.alloc (.cells (bA k) 39) := ⟨_, rfl⟩
 have hb0 : Below W.heap.size W X := by rw [hX]; exact Bt.one_below _ _
 have HB0 := Lib.hid hb0
 have HX := Lib.hid hX
 have HVX := Lib.hid (hv.below hb0)
 have HAL := Lib.hid al
 have HR : Hid (∀ w, Calls Tryz.prog 20 #[.int .i64 n] w fun e w' => e = .returned (.bool true) ∧ w = w') := fun w => by
  have := right5_c n w
  rwa [decide_eq_true ⟨h0, h1⟩] at this
 have HF := Lib.hid (few19_yes l.length c A X h)
 have HA := Lib.hid (hA.below hb0)
 have HC := Lib.hid hc
 have HK := Lib.hid hk
 have HL : Hid (l.length ≤ 1200) := h
 have HL6 : Hid (l.length ≤ 1000000) := Nat.le_trans h (by decide)
 have HH := Lib.hid (hash_in n X h0 h1)
 have HRK : Hid (X.heap[W.heap.size]? = some (.cells (bA k) 39 (0, 0))) := by show _ = _; rw [hX]; exact heap_alloc_new W _
 have HLK : Hid (∀ y, Below X.heap.size X y → ldA 39 y (.pointer (some ⟨W.heap.size, 0, none⟩)) = .ok (.value (.agg (bA k))) y) := fun y hy =>
  ldA_row ((hy.block _ (lt_of_heap HRK.out)).trans HRK.out) Tryz.underlying39 (by rw [bA_size, HK.out]; exact infoKey)
 have HZ := Lib.hid hz
 have HPN : Hid (∀ (w : World) (b : Nat), Hs w b n 0 → Vars w → IA w A l → Calls Tryz.prog 26 #[ptr b, .slice A l.length c, .agg (bA k)] w fun e w' => ∃ A' c' m', e = .returned (.tuple #[.slice A' 0 c', .int .i64 12]) ∧ Hs w' b n m' ∧ Keep (fun i => i = b) w w') := fun w b hh hvv hi => by
  have := mu.preNot w b n 0 t A c k hh (by decide) hvv hg (by rw [← ht]; exact hi) (by rw [← ht]; exact HC.out) (by rw [← ht]; exact HL.out) HK.out h3
  rwa [← ht] at this
 have HWY : Hid (∀ w, IA w A l → Calls Tryz.prog 25 #[.slice A l.length c, .agg (bA k)] w fun e w' => ∃ v, e = .returned v ∧ Bt.OwnZ w' w.heap.size v (wayJ k t 0 0) ∧ Below w.heap.size w w') := fun w hA => rway19_c A c l HL6.out t hg.1 hg.2.1 [] (by rw [ht, List.append_nil]) k HK.out w hA
 have HEND : Hid (∃ i : Nat, (wayJ k t 0 0)[(wayJ k t 0 0).length - 1]? = some (i : Int) ∧ l[i]? = some (finM k t 0)) := way_end k t 0 0 l [] (by rw [List.drop_zero, ht, List.append_nil])
 have HLEN : Hid ((wayJ k t 0 0).length = depM k t 0 + 1 ∧ depM k t 0 ≤ 256) := ⟨by have := wayJ_len k t 0 0; omega, by have := wayJ_le k t 0 0; have := wayJ_len k t 0 0; have := hg.2.1; omega⟩
 have H3 := Lib.hid h3
 clear hX hb0 hv al h h0 h1 hA hc hk hz hg ht h3
 go_enter Tryz.func7, Tryz.ntmps7
 go_wp2_with fail
 rw [← HX.out]
 refine (HR.out X).mono ?_
 rintro _ _ ⟨rfl, rfl⟩
 go_wp2_with fail
 refine HF.out.mono ?_
 rintro _ _ ⟨rfl, rfl⟩
 go_wp2_with fail
 refine HH.out.mono ?_
 rintro _ w1 ⟨b, rfl, hbn, hH, hB1⟩
 have HB1 := Lib.hid hB1
 have HBN := Lib.hid hbn
 have HH1 := Lib.hid hH
 have l1 := HLK.out w1 HB1.out
 have HPB := Lib.hid (HPN.out w1 b HH1.out (HVX.out.below HB1.out) (HA.out.below HB1.out))
 clear hbn hH hB1 HH
 go_wp2_with fail
 refine HPB.out.mono ?_
 rintro _ w2 ⟨A', c', m', rfl, hH2, hk2⟩
 have HB2 := Lib.hid (keep_new HB1.out HBN.out hk2)
 have HCK := rcheck19_c A c l w2 (HA.out.below HB2.out) HL6.out
 rw [HZ.out] at HCK
 have HCK := Lib.hid HCK
 clear hH2 hk2 HPB l1
 go_wp2_with fail
 refine HCK.out.mono ?_
 rintro _ w3 ⟨rfl, hb3⟩
 have HB3 := Lib.hid (keeps HB2.out hb3)
 have l2 := HLK.out w3 HB3.out
 have HWC := Lib.hid (HWY.out w3 (HA.out.below HB3.out))
 clear hb3 HCK
 go_wp2_with fail
 refine HWC.out.mono ?_
 rintro _ y1 ⟨v1, rfl, hO, hb1⟩
 obtain ⟨A3, c3, rfl, hZA⟩ := hO.is
 have HY := Lib.hid (keeps HB3.out hb1)
 obtain ⟨i, hi1, hi2⟩ := HEND.out
 obtain ⟨hwl, hdl⟩ := HLEN.out
 obtain ⟨D, hD⟩ : ∃ D, D = depM k t 0 := ⟨_, rfl⟩
 obtain ⟨L, hL⟩ : ∃ L, (wayJ k t 0 0).length = L := ⟨_, rfl⟩
 rw [hwl, Nat.add_sub_cancel] at hi1
 rw [hwl] at hL
 rw [hwl, hL]
 obtain ⟨b3, o3, hA3, hc3⟩ := hZA _ (i : Int) hi1
 obtain ⟨hxo, g4, o4, hA4, hr4⟩ := (HA.out.below HY.out) i _ hi2
 have hil := (List.getElem?_eq_some_iff.1 hi2).1
 have ck := it_kind hr4
 rw [H3.out] at ck
 rw [← hD] at hdl hc3 hL
 subst hA3 hA4
 have wn : IntKind.i64.wrap ((L : Int) - 1) = (D : Int) := by rw [wrap19 (by omega) (by omega)]; omega
 have m0 : (0 : Int) ≤ (D : Int) := by omega
 have m1 : (D : Int) < (L : Int) := by omega
 have n1 : i ≤ 1000000 := by have := HL6.out; omega
 have q0 : (0 : Int) ≤ (i : Int) := by omega
 have q1 : (i : Int) < (l.length : Int) := by omega
 clear hO hb1 hi1 hZA hxo hr4 hi2 hil HWC l2 hD hwl hL
 go_wp2_with fail
 refine (HAL.out y1 (HVX.out.below HY.out)).mono ?_
 rintro _ w4 ⟨rfl, hb4⟩
 have HB4 := Lib.hid (keeps HY.out hb4)
 clear hb4
 go_wp2_with fail
 go_ret
 exact ⟨rfl, keeps HB0.out HB4.out⟩
end
section
open Go.RowKit
theorem way_nth (n : Int) (k : List UInt8) : ∀ (t : Mt) (d a : Nat) (l r : List It), t.Shape → t.ht + d ≤ 256 → l.drop a = t.flat ++ r → (finM k t d).k ≠ 3 → ∀ (i : Nat) (p : Nat × Mt), (wayM k t d a)[i]? = some p → p.2.Shape ∧ p.2.ht + (d + i) ≤ 256 ∧ (∀ x ∈ p.2.flat, x ∈ t.flat) ∧ p.2.top.k ≠ 3 ∧ ∃ r', l.drop p.1 = p.2.flat ++ r'
 | .leaf x, d, a, l, r, hs, hh, h, h3, i, p, hp => by
  rw [wayM_leaf] at hp
  cases i with
  | zero =>
   simp at hp
   subst hp
   exact ⟨hs, (by rw [Nat.add_zero]; exact hh), fun _ h => h, h3, r, h⟩
  | succ i => simp at hp
 | .node x u v, d, a, l, r, hs, hh, h, h3, i, p, hp => by
  have h' : l.drop a = x :: (u.flat ++ (v.flat ++ r)) := by rw [h]; simp [Mt.flat]
  obtain ⟨hx, hu, hv⟩ := id hs
  have hh' : max u.ht v.ht + 1 + d ≤ 256 := hh
  by_cases hb : bitK k d = 1
  ·rw [wayM_one x u v a hb] at hp
   rw [show finM k (.node x u v) d = finM k v (d + 1) by rw [finM, if_pos hb]] at h3
   cases i with
   | zero =>
    simp at hp
    subst hp
    exact ⟨hs, (by rw [Nat.add_zero]; exact hh), fun _ h => h, by show x.k ≠ 3; omega, r, h⟩
   | succ i =>
    rw [List.getElem?_cons_succ] at hp
    obtain ⟨q1, q2, q3, q4, q5⟩ := way_nth n k v (d + 1) _ l r hv (by omega) (drop_more (drop_next h')) h3 i p hp
    exact ⟨q1, by omega, fun y hy => by have := q3 y hy; simp [Mt.flat, this], q4, q5⟩
  ·rw [wayM_zero x u v a hb] at hp
   rw [show finM k (.node x u v) d = finM k u (d + 1) by rw [finM, if_neg hb]] at h3
   cases i with
   | zero =>
    simp at hp
    subst hp
    exact ⟨hs, (by rw [Nat.add_zero]; exact hh), fun _ h => h, by show x.k ≠ 3; omega, r, h⟩
   | succ i =>
    rw [List.getElem?_cons_succ] at hp
    obtain ⟨q1, q2, q3, q4, q5⟩ := way_nth n k u (d + 1) _ l (v.flat ++ r) hu (by omega) (drop_next h') h3 i p hp
    exact ⟨q1, by omega, fun y hy => by have := q3 y hy; simp [Mt.flat, this], q4, q5⟩
theorem pres19_in {M : World → Int → Tv → Prop} (mu : MuV M) (al : Alive19) (n : Int) (A : Option Addr) (l : List It) (t : Mt) (hg : t.Good) (ht : l = t.flat) (c : Nat) (k : List UInt8) (W : World) (hv : Vars W) (hA : IA W A l) (hc : l.length ≤ c) (hk : k.length = 32) (h0 : 0 ≤ n) (h1 : n ≤ 256) (h : l.length ≤ 1200) (hz : chkI l = 0) (h3 : (finM k t 0).k ≠ 3) :
  Calls Tryz.prog 7 #[.int .i64 n, .slice A l.length c, .agg (bA k)] W (Aye W) := by
 obtain ⟨X, hX⟩ : ∃ X, X = W.alloc (.cells (bA k) 39) := ⟨_, rfl⟩
 have hb0 : Below W.heap.size W X := by rw [hX]; exact Bt.one_below _ _
 have HB0 := Lib.hid hb0
 have HX := Lib.hid hX
 have HVX := Lib.hid (hv.below hb0)
 have HAL := Lib.hid al
 have HR : Hid (∀ w, Calls Tryz.prog 20 #[.int .i64 n] w fun e w' => e = .returned (.bool true) ∧ w = w') := fun w => by
  have := right5_c n w
  rwa [decide_eq_true ⟨h0, h1⟩] at this
 have HF := Lib.hid (few19_yes l.length c A X h)
 have HA := Lib.hid (hA.below hb0)
 have HC := Lib.hid hc
 have HK := Lib.hid hk
 have HL : Hid (l.length ≤ 1200) := h
 have HL6 : Hid (l.length ≤ 1000000) := Nat.le_trans h (by decide)
 have HH := Lib.hid (hash_in n X h0 h1)
 have HRK : Hid (X.heap[W.heap.size]? = some (.cells (bA k) 39 (0, 0))) := by show _ = _; rw [hX]; exact heap_alloc_new W _
 have HLK : Hid (∀ y, Below X.heap.size X y → ldA 39 y (.pointer (some ⟨W.heap.size, 0, none⟩)) = .ok (.value (.agg (bA k))) y) := fun y hy =>
  ldA_row ((hy.block _ (lt_of_heap HRK.out)).trans HRK.out) Tryz.underlying39 (by rw [bA_size, HK.out]; exact infoKey)
 have HZ := Lib.hid hz
 obtain ⟨P, hP⟩ : ∃ P, P = presM n t k := ⟨_, rfl⟩
 have HPN : Hid (∀ (w : World) (b : Nat), Hs w b n 0 → Vars w → IA w A l → Calls Tryz.prog 26 #[ptr b, .slice A l.length c, .agg (bA k)] w fun e w' => ∃ A' c' m', e = .returned (.tuple #[.slice A' P.length c', .int .i64 0]) ∧ PS19 w' A' P ∧ P.length ≤ c' ∧ Hs w' b n m' ∧ Keep (fun i => i = b) w w') := fun w b hh hvv hi => by
  have := mu.pre w b n 0 t A c k hh (by decide) hvv hg (by rw [← ht]; exact hi) (by rw [← ht]; exact HC.out) (by rw [← ht]; exact HL.out) HK.out h3
  rw [← hP] at this
  rwa [← ht] at this
 have HWY : Hid (∀ w, IA w A l → Calls Tryz.prog 25 #[.slice A l.length c, .agg (bA k)] w fun e w' => ∃ v, e = .returned v ∧ Bt.OwnZ w' w.heap.size v (wayJ k t 0 0) ∧ Below w.heap.size w w') := fun w hA => rway19_c A c l HL6.out t hg.1 hg.2.1 [] (by rw [ht, List.append_nil]) k HK.out w hA
 have HEND : Hid (∃ i : Nat, (wayJ k t 0 0)[(wayJ k t 0 0).length - 1]? = some (i : Int) ∧ l[i]? = some (finM k t 0)) := way_end k t 0 0 l [] (by rw [List.drop_zero, ht, List.append_nil])
 have HLEN : Hid ((wayJ k t 0 0).length = depM k t 0 + 1 ∧ depM k t 0 ≤ 256) := ⟨by have := wayJ_len k t 0 0; omega, by have := wayJ_le k t 0 0; have := wayJ_len k t 0 0; have := hg.2.1; omega⟩
 have HPL : Hid (P.length = (wayJ k t 0 0).length) := by show _ = _; rw [hP]; unfold presM wayJ; rw [List.length_map, List.length_map]
 have hok : ∀ w, IA w A l → ∀ x ∈ t.flat, x.Ok ∧ 0 ≤ x.k ∧ x.k ≤ 3 := fun w hi x hx => ⟨hi.ok x (by rw [ht]; exact hx), (hg.2.2 x hx).1⟩
 have HNTH : Hid (∀ (j : Nat), j < P.length → ∃ (a : Nat) (pv : List UInt8), (wayJ k t 0 0)[j]? = some (a : Int) ∧ P[j]? = some pv ∧ pv.length ≤ 65 ∧ a ≤ 1000000 ∧ ∀ w, IA w A l → Calls Tryz.prog 28 #[.int .i64 n, .slice A l.length c, .int .i64 a, .int .i64 j] w fun e w' => ∃ v, e = .returned v ∧ OwnB w' w.heap.size v pv ∧ Below w.heap.size w w') := fun j hj => by
  have hj2 : j < (wayM k t 0 0).length := by
   have : P.length = (wayM k t 0 0).length := by rw [hP]; unfold presM; rw [List.length_map]
   omega
  obtain ⟨p, hp⟩ : ∃ p, (wayM k t 0 0)[j]? = some p := ⟨_, List.getElem?_eq_getElem hj2⟩
  obtain ⟨q1, q2, q3, q4, r', q5⟩ := way_nth n k t 0 0 l [] hg.1 (by have := hg.2.1; omega) (by rw [List.drop_zero, ht, List.append_nil]) h3 j p hp
  refine ⟨p.1, preM n p.2, by unfold wayJ; rw [List.getElem?_map, hp]; rfl, by rw [hP]; unfold presM; rw [List.getElem?_map, hp]; rfl, preM_len n p.2 (fun x hx => (hok _ hA x (q3 x hx)).1), ?_, fun w hi => rpre19_c n A c l HL6.out p.2 (256 - j) j p.1 r' q1 (by omega) (by omega) (fun x hx => hok w hi x (q3 x hx)) q5 q4 w hi⟩
  have := congrArg List.length q5
  rw [List.length_drop, List.length_append] at this
  have := Mt.flat_pos p.2
  have := HL.out
  omega
 have H3 := Lib.hid h3
 clear hX hb0 hv al h h0 h1 hA hc hk hz hg ht h3 hP hok
 go_enter Tryz.func7, Tryz.ntmps7
 go_wp2_with fail
 rw [← HX.out]
 refine (HR.out X).mono ?_
 rintro _ _ ⟨rfl, rfl⟩
 go_wp2_with fail
 refine HF.out.mono ?_
 rintro _ _ ⟨rfl, rfl⟩
 go_wp2_with fail
 refine HH.out.mono ?_
 rintro _ w1 ⟨b, rfl, hbn, hH, hB1⟩
 have HB1 := Lib.hid hB1
 have HBN := Lib.hid hbn
 have HH1 := Lib.hid hH
 have l1 := HLK.out w1 HB1.out
 have HPB := Lib.hid (HPN.out w1 b HH1.out (HVX.out.below HB1.out) (HA.out.below HB1.out))
 clear hbn hH hB1 HH
 go_wp2_with fail
 refine HPB.out.mono ?_
 rintro _ w2 ⟨A', c', m', rfl, hps, _, hH2, hk2⟩
 have HB2 := Lib.hid (keep_new HB1.out HBN.out hk2)
 have HPS := Lib.hid hps
 have HCK := rcheck19_c A c l w2 (HA.out.below HB2.out) HL6.out
 rw [HZ.out] at HCK
 have HCK := Lib.hid HCK
 clear hH2 hk2 HPB l1 hps
 go_wp2_with fail
 refine HCK.out.mono ?_
 rintro _ w3 ⟨rfl, hb3⟩
 have HB3 := Lib.hid (keeps HB2.out hb3)
 have HPS := Lib.hid (HPS.out.below hb3)
 have l2 := HLK.out w3 HB3.out
 have HWC := Lib.hid (HWY.out w3 (HA.out.below HB3.out))
 clear hb3 HCK
 go_wp2_with fail
 refine HWC.out.mono ?_
 rintro _ y1 ⟨v1, rfl, hO, hb1⟩
 obtain ⟨A3, c3, rfl, hZA⟩ := hO.is
 have HY := Lib.hid (keeps HB3.out hb1)
 have HPS := Lib.hid (HPS.out.below hb1)
 have HZA := Lib.hid hZA
 obtain ⟨i, hi1, hi2⟩ := HEND.out
 obtain ⟨hwl, hdl⟩ := HLEN.out
 have hpl := HPL.out
 obtain ⟨D, hD⟩ : ∃ D, D = depM k t 0 := ⟨_, rfl⟩
 obtain ⟨L, hL⟩ : ∃ L, (wayJ k t 0 0).length = L := ⟨_, rfl⟩
 rw [hwl, Nat.add_sub_cancel] at hi1
 rw [hwl] at hL
 rw [hwl, hL]
 rw [hwl, hL] at hpl
 obtain ⟨b3, o3, hA3, hc3⟩ := hZA _ (i : Int) hi1
 obtain ⟨hxo, g4, o4, hA4, hr4⟩ := (HA.out.below HY.out) i _ hi2
 have hil := (List.getElem?_eq_some_iff.1 hi2).1
 have ck := it_kind hr4
 obtain ⟨kk, hkk⟩ : ∃ kk, kk = (finM k t 0).k := ⟨_, rfl⟩
 rw [← hkk] at ck
 have b3' : (kk == 3) = false := by simpa using (show kk ≠ 3 by rw [hkk]; exact H3.out)
 rw [← hD] at hdl hc3 hL
 subst hA3 hA4
 have wn : IntKind.i64.wrap ((L : Int) - 1) = (D : Int) := by rw [wrap19 (by omega) (by omega)]; omega
 have m0 : (0 : Int) ≤ (D : Int) := by omega
 have m1 : (D : Int) < (L : Int) := by omega
 have n1 : i ≤ 1000000 := by have := HL6.out; omega
 have q0 : (0 : Int) ≤ (i : Int) := by omega
 have q1 : (i : Int) < (l.length : Int) := by omega
 have HPE := Lib.hid hpl
 have HLB : Hid (L ≤ 257) := by show _ ≤ _; omega
 clear hO hb1 hi1 hZA hxo hr4 hi2 hil HWC l2 hD hwl hL hkk hpl
 rw [HPE.out]
 go_wp2_with fail
 clear ck b3' wn m0 m1 n1 q0 q1 hc3
 go_loopg [12, 83] L (fun gg _ i wr => ∃ (j : Nat), i = .int .i64 (j : Int) ∧ j ≤ L ∧ L - j = gg ∧ Below y1.heap.size y1 wr)
 case atStart => exact ⟨0, rfl, by omega, by omega, Below.refl _ _⟩
 case round =>
  obtain ⟨j, rfl, hj, rfl, hbr⟩ := hrel
  have HBR := Lib.hid hbr
  have HBW := Lib.hid (keeps HY.out hbr)
  have HJ := Lib.hid hj
  clear hbr hj
  by_cases hlt : j < L
  ·have hd : decide (j < L) = true := decide_eq_true hlt
   obtain ⟨a, pv, hw, hp, hpl, ha, hpr⟩ := HNTH.out j (by rw [HPE.out]; exact hlt)
   obtain ⟨g5, o5, v5, rfl, hcv, A6, c6, rfl, hba, hc6⟩ := HPS.out j _ hp
   obtain ⟨b6, o6, hA6, hc7⟩ := HZA.out j _ hw
   cases hA6
   have LHD : Hid (∀ v, Below wr.heap.size wr v → v.cell? ⟨g5, o5 + j, none⟩ = some (.slice A6 pv.length c6)) := fun v hv => by
    have hb := HBR.out.trans (hv.mono HBR.out.size)
    rw [hb.cell (show (⟨g5, o5 + j, none⟩ : Addr).block < y1.heap.size from lt_of_cell hcv)]; exact hcv
   have LWI : Hid (∀ v, Below wr.heap.size wr v → v.cell? ⟨b3, o3 + j, none⟩ = some (.int .i64 (a : Int))) := fun v hv => by
    have hb := HBR.out.trans (hv.mono HBR.out.size)
    rw [hb.cell (show (⟨b3, o3 + j, none⟩ : Addr).block < y1.heap.size from lt_of_cell hc7)]; exact hc7
   have HPR : Hid (∀ v, Below wr.heap.size wr v → Calls Tryz.prog 28 #[.int .i64 n, .slice (some ⟨g4, o4, none⟩) l.length c, .int .i64 a, .int .i64 j] v fun e w' => ∃ x, e = .returned x ∧ OwnB w' v.heap.size x pv ∧ Below v.heap.size v w') := fun v hv => hpr v (HA.out.below (HBW.out.trans (hv.mono HBW.out.size)))
   have HSM : Hid (∀ v B cB, Below wr.heap.size wr v → BA v B pv → Calls Tryz.prog 27 #[.slice A6 pv.length c6, .slice B pv.length cB] v fun e w' => e = .returned (.bool true) ∧ Below v.heap.size v w') := fun v B cB hv hB => by
    have := same_c A6 B c6 cB pv pv v (hba.below (HBR.out.trans (hv.mono HBR.out.size))) hB (by omega) (by omega)
    rwa [decide_eq_true rfl] at this
   have j0 : (0 : Int) ≤ (j : Int) := by omega
   have j1 : (j : Int) < (L : Int) := by omega
   have j2 : j ≤ 257 := by have := HLB.out; omega
   have wi : IntKind.i64.wrap ((j : Int) + 1) = (j : Int) + 1 := wrap19 (by omega) (by omega)
   clear hw hp hpl hpr hcv hba hc6 hc7 hlt
   go_wp2_with fail
   refine wp_region_held_drew (S := fun w' => Below wr.heap.size wr w') (by kernel_rfl) ((Below.refl _ _).drew) (fun hHeld => ?_)
   have hb0 : Below wr.heap.size wr wr.drew := (Below.refl _ _).drew
   refine x_t (i := 0) (oi := { dst := some 86, op := .move (.tmp 8), .. }) (v := ?_) rfl (Or.inl ⟨by rfl, ?_⟩) ?_
   rotate_left 1
   ·intro v hSv
    clear hSv
    go_simp
    try with_reducible rfl
   try simp only [Act.put, x_A, x_0, x_1]
   refine x_t (i := 1) (oi := { dst := some 87, op := .move (.tmp 12), .. }) (v := ?_) rfl (Or.inl ⟨by rfl, ?_⟩) ?_
   rotate_left 1
   ·intro v hSv
    clear hSv
    go_simp
    try with_reducible rfl
   try simp only [Act.put, x_A, x_0, x_1]
   refine x_t (i := 2) (oi := { dst := some 88, op := .indexAddr _ (.tmp 86) (.tmp 87), .. }) (v := ?_) rfl (Or.inl ⟨by rfl, ?_⟩) ?_
   rotate_left 1
   ·intro v hSv
    clear hSv
    go_simp
    try with_reducible rfl
   try simp only [Act.put, x_A, x_0, x_1]
   refine x_t (i := 3) (oi := { dst := some 89, op := .load _ (.tmp 88), .. }) (v := ?_) rfl (Or.inl ⟨by rfl, ?_⟩) ?_
   rotate_left 1
   ·intro v hSv
    have hv1 := LHD.out v hSv
    clear hSv
    go_simp
    try with_reducible rfl
   try simp only [Act.put, x_A, x_0, x_1]
   refine x_t (i := 4) (oi := { dst := some 90, op := .move (.tmp 0), .. }) (v := ?_) rfl (Or.inl ⟨by rfl, ?_⟩) ?_
   rotate_left 1
   ·intro v hSv
    clear hSv
    go_simp
    try with_reducible rfl
   try simp only [Act.put, x_A, x_0, x_1]
   refine x_t (i := 5) (oi := { dst := some 91, op := .move (.tmp 1), .. }) (v := ?_) rfl (Or.inl ⟨by rfl, ?_⟩) ?_
   rotate_left 1
   ·intro v hSv
    clear hSv
    go_simp
    try with_reducible rfl
   try simp only [Act.put, x_A, x_0, x_1]
   refine x_t (i := 6) (oi := { dst := some 92, op := .move (.tmp 11), .. }) (v := ?_) rfl (Or.inl ⟨by rfl, ?_⟩) ?_
   rotate_left 1
   ·intro v hSv
    clear hSv
    go_simp
    try with_reducible rfl
   try simp only [Act.put, x_A, x_0, x_1]
   refine x_t (i := 7) (oi := { dst := some 93, op := .move (.tmp 12), .. }) (v := ?_) rfl (Or.inl ⟨by rfl, ?_⟩) ?_
   rotate_left 1
   ·intro v hSv
    clear hSv
    go_simp
    try with_reducible rfl
   try simp only [Act.put, x_A, x_0, x_1]
   refine x_t (i := 8) (oi := { dst := some 94, op := .indexAddr _ (.tmp 92) (.tmp 93), .. }) (v := ?_) rfl (Or.inl ⟨by rfl, ?_⟩) ?_
   rotate_left 1
   ·intro v hSv
    clear hSv
    go_simp
    try with_reducible rfl
   try simp only [Act.put, x_A, x_0, x_1]
   refine x_t (i := 9) (oi := { dst := some 95, op := .load _ (.tmp 94), .. }) (v := ?_) rfl (Or.inl ⟨by rfl, ?_⟩) ?_
   rotate_left 1
   ·intro v hSv
    have hv1 := LWI.out v hSv
    clear hSv
    go_simp
    try with_reducible rfl
   try simp only [Act.put, x_A, x_0, x_1]
   refine x_t (i := 10) (oi := { dst := some 96, op := .move (.tmp 12), .. }) (v := ?_) rfl (Or.inl ⟨by rfl, ?_⟩) ?_
   rotate_left 1
   ·intro v hSv
    clear hSv
    go_simp
    try with_reducible rfl
   try simp only [Act.put, x_A, x_0, x_1]
   refine wpAnyH_ready (rs := [11]) (by kernel_rfl) (by simp) ?_
   refine AllReadyH.cons (o := { dst := some 97, op := .call _, .. }) rfl (fun K hK => ?_) AllReadyH.nil
   go_simp
   refine (HPR.out wr.drew (hb0)).mono ?_
   rintro e y1 ⟨v1, rfl, hO1, hb⟩
   have hb1 : Below wr.heap.size wr y1 := keeps (hb0) hb
   obtain ⟨A7, c7, rfl, hc7, hI7⟩ := hO1.any
   have HI7 := Lib.hid hI7
   clear hO1 hI7 hc7
   clear hb
   go_wp2_with fail
   refine hK.out _ _ (hb1) (fun hHeld => ?_)
   clear hK K
   try simp only [Act.put, x_A, x_0, x_1]
   refine wpAnyH_ready (rs := [12]) (by kernel_rfl) (by simp) ?_
   refine AllReadyH.cons (o := { dst := some 98, op := .call _, .. }) rfl (fun K hK => ?_) AllReadyH.nil
   go_simp
   refine (HSM.out y1 A7 c7 (hb1) HI7.out).mono ?_
   rintro e y2 ⟨rfl, hb⟩
   have hb2 : Below wr.heap.size wr y2 := keeps (hb1) hb
   clear hb
   go_wp2_with fail
   refine hK.out _ _ (hb2) (fun hHeld => ?_)
   clear hK K
   try simp only [Act.put, x_A, x_0, x_1]
   refine x_t (i := 13) (oi := { dst := some 99, op := .unOp .not _ (.tmp 98), .. }) (v := ?_) rfl (Or.inl ⟨by rfl, ?_⟩) ?_
   rotate_left 1
   ·intro v hSv
    clear hSv
    go_simp
    try with_reducible rfl
   try simp only [Act.put, x_A, x_0, x_1]
   refine wpAnyH_done (by kernel_rfl) ?_ _
   have HQ8 := Lib.hid (hb2)
   go_wp2_with fail
   go_roundg (L - (j + 1))
   case measure => omega
   case rel => exact ⟨j + 1, by go_num, by omega, rfl, HBR.out.trans (HQ8.out.mono HBR.out.size)⟩
  ·obtain rfl : j = L := by have := HJ.out; omega
   have hd : decide (j < j) = false := by simp
   have HAW := Lib.hid (HAL.out wr (HVX.out.below HBW.out))
   clear hlt
   go_wp2_with fail
   refine HAW.out.mono ?_
   rintro _ y2 ⟨rfl, hb2⟩
   have HB4 := Lib.hid (keeps HBW.out hb2)
   clear hb2 HAW
   go_wp2_with fail
   go_ret
   exact ⟨rfl, keeps HB0.out HB4.out⟩
theorem pres19_w {M : World → Int → Tv → Prop} (mu : MuV M) (al : Alive19) (n : Int) (A : Option Addr) (l : List It) (c : Nat) (k : List UInt8) (W : World) (hv : Vars W) (hA : IA W A l) (hc : l.length ≤ c) (hk : k.length = 32) :
  Calls Tryz.prog 7 #[.int .i64 n, .slice A l.length c, .agg (bA k)] W (Aye W) := by
 by_cases hn : n < 0 ∨ 256 < n
 ·exact pres19_out al n A l c k W hv hn
 by_cases h : l.length ≤ 1200
 ·by_cases hz : chkI l = 0
  ·obtain ⟨t, hg, ht⟩ := chkI_ok.1 hz
   by_cases h3 : (finM k t 0).k = 3
   ·exact pres19_not mu al n A l t hg ht c k W hv hA hc hk (by omega) (by omega) h hz h3
   ·exact pres19_in mu al n A l t hg ht c k W hv hA hc hk (by omega) (by omega) h hz h3
  ·exact pres19_form mu al n A l c k W hv hA hc hk (by omega) (by omega) h hz
 ·exact pres19_far al n A l c k W hv (by omega) (by omega) h
end
end Go.Proofs.YtmfbhohjpkmllaaGreatDoor
