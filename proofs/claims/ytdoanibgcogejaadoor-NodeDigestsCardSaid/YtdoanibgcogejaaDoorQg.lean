/- The program's Join (by program: gen-tpl7-join.py). -/
import Derived.Test.YtdoanibgcogejaaDoorQf
namespace Go.Proofs.YtdoanibgcogejaaDoor
open Go.RowKit

@[go_sem ↓] theorem execOp_buildInner (ρ : Operand → Value) (dst : Option Tmp) (parts : Array (Nat × Operand)) (type : TypeId) (pos : String) (after : Array Edge) (guard : Option (Nat × Bool)) (w : World) :
    Sem.run Tryd.prog (execOp ρ { dst, op := .build 75 parts, type, pos, after, guard }) w = bldA 75 w (parts.map fun x => (x.1, ρ x.2)) := rfl
theorem bldInner (p q : Option Addr) (r : Int) (w : World) : bldA 75 w #[(0, .pointer p), (1, .pointer q), (2, .int .i64 r)] = .ok (.value (.agg #[.pointer p, .pointer q, .int .i64 r])) w := by kernel_rfl
/-- What Join leaves, an inner node. -/
theorem join_end {w y : World} {b m m2 : Nat} {n : Int} {S T : Tv} {q : List UInt8} {cs : Array Value} (hk : Keep (fun i => i = b) w y) (hh : Hs y b n (m2 + 1)) (hm : m2 ≤ m + 2) (hS : Mn y n S) (hT : Mn y n T) (hq : q = digT n (.inner S.tr T.tr))
    (hc : cs = nodeC q (.iface 75 (.agg (inC S.val T.val ((lenT S.tr + lenT T.tr : Nat) : Int))))) (hJ : ∀ v, joinV v S T = .inner v S T) :
    ∃ v c', Ending.returned (.pointer (some ⟨y.heap.size, 0, none⟩)) = .returned (joinV v S T).val ∧ Mn (y.alloc (.cells cs 63)) n (joinV v S T) ∧ c' ≤ m + 3 ∧ Hs (y.alloc (.cells cs 63)) b n c' ∧ Keep (fun i => i = b) w (y.alloc (.cells cs 63)) := by
  have hby : Below y.heap.size y (y.alloc (.cells cs 63)) := (Below.refl _ _).alloc (Nat.le_refl _) _
  have hn : NodeAt (y.alloc (.cells cs 63)) y.heap.size q (.iface 75 (.agg (inC S.val T.val ((lenT S.tr + lenT T.tr : Nat) : Int)))) := by
    unfold NodeAt
    rw [← hc]
    exact heap_alloc_new y _
  refine ⟨ptr y.heap.size, m2 + 1, by rw [hJ]; rfl, ?_, by omega, hh.keep (Keep.of_below (L := fun _ => False) hby) fun h => h, hk.alloc _⟩
  rw [hJ]
  exact ⟨y.heap.size, rfl, by rw [← hq]; exact hn, hS.below hby, hT.below hby⟩
set_option maxHeartbeats 8000000 in
set_option maxRecDepth 100000 in
theorem join_n (w : World) (b : Nat) (n : Int) (m : Nat) (S T : Tv) (hh : Hs w b n m) (hm : m ≤ 1000000) (hv : Vars w) (hS : Mn w n S) (hT : Mn w n T) (hl : lenT S.tr + lenT T.tr ≤ 1000000000) :
    Calls Tryd.prog 27 #[ptr b, S.val, T.val] w fun x w' => ∃ v c', x = .returned (joinV v S T).val ∧ Mn w' n (joinV v S T) ∧ c' ≤ m + 3 ∧ Hs w' b n c' ∧ Keep (fun i => i = b) w w' := by
  have hcase : (S = .nil ∧ kindT T.tr ≠ 2) ∨ (S = .nil ∧ kindT T.tr = 2) ∨ (S ≠ .nil ∧ T = .nil ∧ kindT S.tr ≠ 2) ∨ (S ≠ .nil ∧ T = .nil ∧ kindT S.tr = 2) ∨ (S ≠ .nil ∧ T ≠ .nil) := by
    by_cases h1 : S = .nil
    · by_cases h2 : kindT T.tr = 2
      · exact .inr (.inl ⟨h1, h2⟩)
      · exact .inl ⟨h1, h2⟩
    · by_cases h2 : T = .nil
      · by_cases h3 : kindT S.tr = 2
        · exact .inr (.inr (.inr (.inl ⟨h1, h2, h3⟩)))
        · exact .inr (.inr (.inl ⟨h1, h2, h3⟩))
      · exact .inr (.inr (.inr (.inr ⟨h1, h2⟩)))
  obtain ⟨pT, hpT⟩ := hT.ptr
  obtain ⟨pS, hpS⟩ := hS.ptr
  rcases hcase with ⟨rfl, hk⟩ | ⟨rfl, hk⟩ | ⟨hSn, rfl, hk⟩ | ⟨hSn, rfl, hk⟩ | ⟨hSn, hTn⟩
  · have hJ : ∀ v, joinV v .nil T = T := fun v => by
      cases T with
      | nil => rfl
      | leaf v e => rfl
      | inner v x y => exact absurd rfl hk
    have HJ := Lib.hid hJ
    obtain ⟨kd, hkd⟩ : ∃ k, k = kindT T.tr := ⟨_, rfl⟩
    rw [← hkd] at hk
    have k1 : (kd != 2) = true := by rw [bne_iff_ne]; exact hk
    have HKD := Lib.hid hkd.symm
    rw [show (Tv.nil).val = .pointer none from rfl, hpT]
    have HS0 := Lib.hid hS
    have HT0 := Lib.hid hT
    have HH0 := Lib.hid hh
    have HV0 := Lib.hid hv
    have HK0 : Hid (Keep (fun i => i = b) w w) := Keep.refl _ _
    have HL := Lib.hid hl
    have HPT := Lib.hid hpT
    clear hJ hk hkd hS hT hh hv hpT hpS
    unfold ptr
    go_enter Tryd.func27, Tryd.ntmps27
    go_wp2_with fail
    have HC := Lib.hid (kind_n w n T HT0.out)
    rw [HPT.out, HKD.out] at HC
    refine HC.out.mono ?_
    rintro _ w1 ⟨rfl, hB⟩
    have HS1 := Lib.hid (HS0.out.below hB)
    have HT1 := Lib.hid (HT0.out.below hB)
    have HH1 := Lib.hid (HH0.out.keep (Keep.of_below (L := fun _ => False) hB) fun h => h)
    have HV1 := Lib.hid (HV0.out.below hB)
    have HK1 : Hid (Keep (fun i => i = b) w w1) := HK0.out.trans (Keep.of_below hB)
    clear hB HC HS0 HT0 HH0 HV0 HK0
    go_wp2_with fail
    go_ret
    exact ⟨.pointer none, m, by rw [HJ.out, HPT.out]; rfl, by rw [HJ.out]; exact HT1.out, by omega, HH1.out, HK1.out⟩
  · have hJ : ∀ v, joinV v .nil T = .inner v .nil T := fun v => by
      cases T with
      | nil => exact absurd hk (show ¬ (0 : Int) = 2 by decide)
      | leaf v e => exact absurd hk (show ¬ (1 : Int) = 2 by decide)
      | inner v x y => rfl
    obtain ⟨aT, haT⟩ : ∃ a, T.val = .pointer (some a) := by
      rcases hT.addr with h | h
      · rw [h] at hk; exact absurd hk (show ¬ (0 : Int) = 2 by decide)
      · exact h
    rw [show (Tv.nil).val = .pointer none from rfl, haT]
    obtain ⟨S, hSS⟩ : ∃ S : Tv, S = .nil := ⟨_, rfl⟩
    have HSV : Hid (S.val = .pointer none) := by rw [hSS]; rfl
    rw [← hSS] at hS hl hJ ⊢
    have HS0 := Lib.hid hS
    have HT0 := Lib.hid hT
    have HH0 := Lib.hid hh
    have HV0 := Lib.hid hv
    have HK0 : Hid (Keep (fun i => i = b) w w) := Keep.refl _ _
    have HL := Lib.hid hl
    have HPT := Lib.hid haT
    have HKD := Lib.hid hk
    have HJJ := Lib.hid hJ
    clear hJ hk hS hT hh hv hpT hpS haT hSS
    unfold ptr
    go_enter Tryd.func27, Tryd.ntmps27
    go_wp2_with fail
    have HC := Lib.hid (kind_n w n T HT0.out)
    rw [HPT.out, HKD.out] at HC
    refine HC.out.mono ?_
    rintro _ w1 ⟨rfl, hB⟩
    have HS1 := Lib.hid (HS0.out.below hB)
    have HT1 := Lib.hid (HT0.out.below hB)
    have HH1 := Lib.hid (HH0.out.keep (Keep.of_below (L := fun _ => False) hB) fun h => h)
    have HV1 := Lib.hid (HV0.out.below hB)
    have HK1 : Hid (Keep (fun i => i = b) w w1) := HK0.out.trans (Keep.of_below hB)
    clear hB HC HS0 HT0 HH0 HV0 HK0
    obtain ⟨dS, hdS⟩ : ∃ d, d = digT n S.tr := ⟨_, rfl⟩
    obtain ⟨dT, hdT⟩ : ∃ d, d = digT n T.tr := ⟨_, rfl⟩
    have HdS : Hid (dS.length = 32) := by show _ = _; rw [hdS]; exact digT_len _ _
    have HdT : Hid (dT.length = 32) := by show _ = _; rw [hdT]; exact digT_len _ _
    obtain ⟨q, hq⟩ : ∃ q, q = digL n (nodeL dS dT) := ⟨_, rfl⟩
    have HQL : Hid (q.length = 32) := by show _ = _; rw [hq]; exact dig_len _ _
    have HQ : Hid (q = digT n (.inner S.tr T.tr)) := by show _ = _; rw [hq, hdS, hdT]; rfl
    have HDS := Lib.hid hdS
    have HDT := Lib.hid hdT
    have HQ1 := Lib.hid hq
    clear hdS hdT hq
    go_wp2_with fail
    have HC := Lib.hid (digest_n w1 b n m S HH1.out (by omega) HV1.out HS1.out)
    rw [HSV.out, ← HDS.out] at HC
    refine HC.out.mono ?_
    rintro _ v1 ⟨m1, rfl, hm1, _, hH, hK⟩
    have GS1 := Lib.hid (HS1.out.hs HH1.out hK)
    have GT1 := Lib.hid (HT1.out.hs HH1.out hK)
    have GV1 := Lib.hid (HV1.out.hs HH1.out hK)
    have GH1 := Lib.hid hH
    have GK1 := Lib.hid (HK1.out.trans hK)
    have GM1 := Lib.hid hm1
    clear hm1 hH hK HC HS1 HT1 HH1 HV1 HK1
    go_wp2_with fail
    have HC := Lib.hid (digest_n v1 b n m1 T GH1.out (by have := GM1.out; omega) GV1.out GT1.out)
    rw [HPT.out, ← HDT.out] at HC
    refine HC.out.mono ?_
    rintro _ v2 ⟨m2, rfl, hm2, _, hH, hK⟩
    have GS2 := Lib.hid (GS1.out.hs GH1.out hK)
    have GT2 := Lib.hid (GT1.out.hs GH1.out hK)
    have GV2 := Lib.hid (GV1.out.hs GH1.out hK)
    have GH2 := Lib.hid hH
    have GK2 := Lib.hid (GK1.out.trans hK)
    have GM2 : Hid (m2 ≤ m + 2) := by show _ ≤ _; have := GM1.out; omega
    clear hm2 hH hK HC GS1 GT1 GV1 GH1 GK1 GM1
    go_wp2_with fail
    refine (pnode_c dS dT v2 HdS.out HdT.out).mono ?_
    rintro _ v3 ⟨A1, c1, rfl, hn1, hc1, hA1, hB⟩
    have GH3 := Lib.hid (GH2.out.keep (Keep.of_below (L := fun _ => False) hB) fun h => h)
    have HC := Lib.hid (sum_hs b n m2 A1 (nodeL dS dT) c1 v3 GH3.out (by have := GM2.out; omega) hA1 (by omega) (by omega) (GV2.out.below hB))
    rw [hn1, ← HQ1.out] at HC
    have GS3 := Lib.hid (GS2.out.below hB)
    have GT3 := Lib.hid (GT2.out.below hB)
    have GK3 := Lib.hid (GK2.out.trans (Keep.of_below hB))
    clear hn1 hc1 hA1 hB GS2 GT2 GV2 GH2 GK2
    go_wp2_with fail
    refine HC.out.mono ?_
    rintro _ v4 ⟨rfl, hH, hK⟩
    have GS4 := Lib.hid (GS3.out.hs GH3.out hK)
    have GT4 := Lib.hid (GT3.out.hs GH3.out hK)
    have GH4 := Lib.hid hH
    have GK4 := Lib.hid (GK3.out.trans hK)
    clear hH hK HC GS3 GT3 GH3 GK3
    go_wp2_with fail
    have HC := Lib.hid (len_n v4 n S GS4.out (by have := HL.out; omega))
    rw [HSV.out] at HC
    refine HC.out.mono ?_
    rintro _ v5 ⟨rfl, hB⟩
    have GS5 := Lib.hid (GS4.out.below hB)
    have GT5 := Lib.hid (GT4.out.below hB)
    have GH5 := Lib.hid (GH4.out.keep (Keep.of_below (L := fun _ => False) hB) fun h => h)
    have GK5 := Lib.hid (GK4.out.trans (Keep.of_below hB))
    clear hB HC GS4 GT4 GH4 GK4
    go_wp2_with fail
    have HC := Lib.hid (len_n v5 n T GT5.out (by have := HL.out; omega))
    rw [HPT.out] at HC
    obtain ⟨lS, hlS⟩ : ∃ l, l = lenT S.tr := ⟨_, rfl⟩
    obtain ⟨lT, hlT⟩ : ∃ l, l = lenT T.tr := ⟨_, rfl⟩
    rw [← hlT] at HC
    rw [← hlS]
    have hlb : (lS : Int) + (lT : Int) ≤ 1000000000 := by rw [hlS, hlT]; have := HL.out; omega
    have HLS := Lib.hid hlS
    have HLT := Lib.hid hlT
    clear hlS hlT
    refine HC.out.mono ?_
    rintro _ v6 ⟨rfl, hB⟩
    have GS6 := Lib.hid (GS5.out.below hB)
    have GT6 := Lib.hid (GT5.out.below hB)
    have GH6 := Lib.hid (GH5.out.keep (Keep.of_below (L := fun _ => False) hB) fun h => h)
    have GK6 := Lib.hid (GK5.out.trans (Keep.of_below hB))
    have bi := bldInner
    have bn := bldNode q 75 (.agg #[S.val, T.val, .int .i64 ((lS : Int) + (lT : Int))]) HQL.out v6
    rw [HSV.out, HPT.out] at bn
    clear hB HC GS5 GT5 GH5 GK5
    go_wp2_with fail
    go_ret
    exact join_end GK6.out GH6.out GM2.out GS6.out GT6.out HQ.out (by rw [HSV.out, HPT.out, HLS.out, HLT.out]; push_cast; rfl) HJJ.out
  · have hJ : ∀ v, joinV v S .nil = S := fun v => by
      cases S with
      | nil => exact absurd rfl hSn
      | leaf v e => rfl
      | inner v x y => exact absurd rfl hk
    have HJ := Lib.hid hJ
    obtain ⟨aS, haS⟩ : ∃ a, S.val = .pointer (some a) := by
      rcases hS.addr with h | h
      · exact absurd h hSn
      · exact h
    obtain ⟨kd, hkd⟩ : ∃ k, k = kindT S.tr := ⟨_, rfl⟩
    rw [← hkd] at hk
    have k1 : (kd != 2) = true := by rw [bne_iff_ne]; exact hk
    have HKD := Lib.hid hkd.symm
    rw [show (Tv.nil).val = .pointer none from rfl, haS]
    have HS0 := Lib.hid hS
    have HT0 := Lib.hid hT
    have HH0 := Lib.hid hh
    have HV0 := Lib.hid hv
    have HK0 : Hid (Keep (fun i => i = b) w w) := Keep.refl _ _
    have HL := Lib.hid hl
    have HPS := Lib.hid haS
    clear hJ hk hkd hS hT hh hv hpT hpS haS hSn
    unfold ptr
    go_enter Tryd.func27, Tryd.ntmps27
    go_wp2_with fail
    have HC := Lib.hid (kind_n w n S HS0.out)
    rw [HPS.out, HKD.out] at HC
    refine HC.out.mono ?_
    rintro _ w1 ⟨rfl, hB⟩
    have HS1 := Lib.hid (HS0.out.below hB)
    have HT1 := Lib.hid (HT0.out.below hB)
    have HH1 := Lib.hid (HH0.out.keep (Keep.of_below (L := fun _ => False) hB) fun h => h)
    have HV1 := Lib.hid (HV0.out.below hB)
    have HK1 : Hid (Keep (fun i => i = b) w w1) := HK0.out.trans (Keep.of_below hB)
    clear hB HC HS0 HT0 HH0 HV0 HK0
    go_wp2_with fail
    go_ret
    exact ⟨.pointer none, m, by rw [HJ.out, HPS.out]; rfl, by rw [HJ.out]; exact HS1.out, by omega, HH1.out, HK1.out⟩
  · have hJ : ∀ v, joinV v S .nil = .inner v S .nil := fun v => by
      cases S with
      | nil => exact absurd rfl hSn
      | leaf v e => exact absurd hk (show ¬ (1 : Int) = 2 by decide)
      | inner v x y => rfl
    obtain ⟨aS, haS⟩ : ∃ a, S.val = .pointer (some a) := by
      rcases hS.addr with h | h
      · exact absurd h hSn
      · exact h
    rw [show (Tv.nil).val = .pointer none from rfl, haS]
    obtain ⟨T, hTT⟩ : ∃ T : Tv, T = .nil := ⟨_, rfl⟩
    have HTV : Hid (T.val = .pointer none) := by rw [hTT]; rfl
    rw [← hTT] at hT hl hJ ⊢
    have HS0 := Lib.hid hS
    have HT0 := Lib.hid hT
    have HH0 := Lib.hid hh
    have HV0 := Lib.hid hv
    have HK0 : Hid (Keep (fun i => i = b) w w) := Keep.refl _ _
    have HL := Lib.hid hl
    have HPS := Lib.hid haS
    have HKD := Lib.hid hk
    have HJJ := Lib.hid hJ
    clear hJ hk hS hT hh hv hpT hpS haS hTT hSn
    unfold ptr
    go_enter Tryd.func27, Tryd.ntmps27
    go_wp2_with fail
    have HC := Lib.hid (kind_n w n S HS0.out)
    rw [HPS.out, HKD.out] at HC
    refine HC.out.mono ?_
    rintro _ w1 ⟨rfl, hB⟩
    have HS1 := Lib.hid (HS0.out.below hB)
    have HT1 := Lib.hid (HT0.out.below hB)
    have HH1 := Lib.hid (HH0.out.keep (Keep.of_below (L := fun _ => False) hB) fun h => h)
    have HV1 := Lib.hid (HV0.out.below hB)
    have HK1 : Hid (Keep (fun i => i = b) w w1) := HK0.out.trans (Keep.of_below hB)
    clear hB HC HS0 HT0 HH0 HV0 HK0
    obtain ⟨dS, hdS⟩ : ∃ d, d = digT n S.tr := ⟨_, rfl⟩
    obtain ⟨dT, hdT⟩ : ∃ d, d = digT n T.tr := ⟨_, rfl⟩
    have HdS : Hid (dS.length = 32) := by show _ = _; rw [hdS]; exact digT_len _ _
    have HdT : Hid (dT.length = 32) := by show _ = _; rw [hdT]; exact digT_len _ _
    obtain ⟨q, hq⟩ : ∃ q, q = digL n (nodeL dS dT) := ⟨_, rfl⟩
    have HQL : Hid (q.length = 32) := by show _ = _; rw [hq]; exact dig_len _ _
    have HQ : Hid (q = digT n (.inner S.tr T.tr)) := by show _ = _; rw [hq, hdS, hdT]; rfl
    have HDS := Lib.hid hdS
    have HDT := Lib.hid hdT
    have HQ1 := Lib.hid hq
    clear hdS hdT hq
    go_wp2_with fail
    have HC := Lib.hid (digest_n w1 b n m S HH1.out (by omega) HV1.out HS1.out)
    rw [HPS.out, ← HDS.out] at HC
    refine HC.out.mono ?_
    rintro _ v1 ⟨m1, rfl, hm1, _, hH, hK⟩
    have GS1 := Lib.hid (HS1.out.hs HH1.out hK)
    have GT1 := Lib.hid (HT1.out.hs HH1.out hK)
    have GV1 := Lib.hid (HV1.out.hs HH1.out hK)
    have GH1 := Lib.hid hH
    have GK1 := Lib.hid (HK1.out.trans hK)
    have GM1 := Lib.hid hm1
    clear hm1 hH hK HC HS1 HT1 HH1 HV1 HK1
    go_wp2_with fail
    have HC := Lib.hid (digest_n v1 b n m1 T GH1.out (by have := GM1.out; omega) GV1.out GT1.out)
    rw [HTV.out, ← HDT.out] at HC
    refine HC.out.mono ?_
    rintro _ v2 ⟨m2, rfl, hm2, _, hH, hK⟩
    have GS2 := Lib.hid (GS1.out.hs GH1.out hK)
    have GT2 := Lib.hid (GT1.out.hs GH1.out hK)
    have GV2 := Lib.hid (GV1.out.hs GH1.out hK)
    have GH2 := Lib.hid hH
    have GK2 := Lib.hid (GK1.out.trans hK)
    have GM2 : Hid (m2 ≤ m + 2) := by show _ ≤ _; have := GM1.out; omega
    clear hm2 hH hK HC GS1 GT1 GV1 GH1 GK1 GM1
    go_wp2_with fail
    refine (pnode_c dS dT v2 HdS.out HdT.out).mono ?_
    rintro _ v3 ⟨A1, c1, rfl, hn1, hc1, hA1, hB⟩
    have GH3 := Lib.hid (GH2.out.keep (Keep.of_below (L := fun _ => False) hB) fun h => h)
    have HC := Lib.hid (sum_hs b n m2 A1 (nodeL dS dT) c1 v3 GH3.out (by have := GM2.out; omega) hA1 (by omega) (by omega) (GV2.out.below hB))
    rw [hn1, ← HQ1.out] at HC
    have GS3 := Lib.hid (GS2.out.below hB)
    have GT3 := Lib.hid (GT2.out.below hB)
    have GK3 := Lib.hid (GK2.out.trans (Keep.of_below hB))
    clear hn1 hc1 hA1 hB GS2 GT2 GV2 GH2 GK2
    go_wp2_with fail
    refine HC.out.mono ?_
    rintro _ v4 ⟨rfl, hH, hK⟩
    have GS4 := Lib.hid (GS3.out.hs GH3.out hK)
    have GT4 := Lib.hid (GT3.out.hs GH3.out hK)
    have GH4 := Lib.hid hH
    have GK4 := Lib.hid (GK3.out.trans hK)
    clear hH hK HC GS3 GT3 GH3 GK3
    go_wp2_with fail
    have HC := Lib.hid (len_n v4 n S GS4.out (by have := HL.out; omega))
    rw [HPS.out] at HC
    refine HC.out.mono ?_
    rintro _ v5 ⟨rfl, hB⟩
    have GS5 := Lib.hid (GS4.out.below hB)
    have GT5 := Lib.hid (GT4.out.below hB)
    have GH5 := Lib.hid (GH4.out.keep (Keep.of_below (L := fun _ => False) hB) fun h => h)
    have GK5 := Lib.hid (GK4.out.trans (Keep.of_below hB))
    clear hB HC GS4 GT4 GH4 GK4
    go_wp2_with fail
    have HC := Lib.hid (len_n v5 n T GT5.out (by have := HL.out; omega))
    rw [HTV.out] at HC
    obtain ⟨lS, hlS⟩ : ∃ l, l = lenT S.tr := ⟨_, rfl⟩
    obtain ⟨lT, hlT⟩ : ∃ l, l = lenT T.tr := ⟨_, rfl⟩
    rw [← hlT] at HC
    rw [← hlS]
    have hlb : (lS : Int) + (lT : Int) ≤ 1000000000 := by rw [hlS, hlT]; have := HL.out; omega
    have HLS := Lib.hid hlS
    have HLT := Lib.hid hlT
    clear hlS hlT
    refine HC.out.mono ?_
    rintro _ v6 ⟨rfl, hB⟩
    have GS6 := Lib.hid (GS5.out.below hB)
    have GT6 := Lib.hid (GT5.out.below hB)
    have GH6 := Lib.hid (GH5.out.keep (Keep.of_below (L := fun _ => False) hB) fun h => h)
    have GK6 := Lib.hid (GK5.out.trans (Keep.of_below hB))
    have bi := bldInner
    have bn := bldNode q 75 (.agg #[S.val, T.val, .int .i64 ((lS : Int) + (lT : Int))]) HQL.out v6
    rw [HPS.out, HTV.out] at bn
    clear hB HC GS5 GT5 GH5 GK5
    go_wp2_with fail
    go_ret
    exact join_end GK6.out GH6.out GM2.out GS6.out GT6.out HQ.out (by rw [HPS.out, HTV.out, HLS.out, HLT.out]; push_cast; rfl) HJJ.out
  · have hJ : ∀ v, joinV v S T = .inner v S T := fun v => by
      cases S with
      | nil => exact absurd rfl hSn
      | leaf a e => cases T with
        | nil => exact absurd rfl hTn
        | leaf _ _ => rfl
        | inner _ _ _ => rfl
      | inner a x y => cases T with
        | nil => exact absurd rfl hTn
        | leaf _ _ => rfl
        | inner _ _ _ => rfl
    obtain ⟨aS, haS⟩ : ∃ a, S.val = .pointer (some a) := by
      rcases hS.addr with h | h
      · exact absurd h hSn
      · exact h
    obtain ⟨aT, haT⟩ : ∃ a, T.val = .pointer (some a) := by
      rcases hT.addr with h | h
      · exact absurd h hTn
      · exact h
    rw [haS, haT]
    have HS0 := Lib.hid hS
    have HT0 := Lib.hid hT
    have HH0 := Lib.hid hh
    have HV0 := Lib.hid hv
    have HK0 : Hid (Keep (fun i => i = b) w w) := Keep.refl _ _
    have HL := Lib.hid hl
    have HPS := Lib.hid haS
    have HPT := Lib.hid haT
    have HJJ := Lib.hid hJ
    clear hJ hS hT hh hv hpT hpS haS haT hSn hTn
    unfold ptr
    go_enter Tryd.func27, Tryd.ntmps27
    obtain ⟨dS, hdS⟩ : ∃ d, d = digT n S.tr := ⟨_, rfl⟩
    obtain ⟨dT, hdT⟩ : ∃ d, d = digT n T.tr := ⟨_, rfl⟩
    have HdS : Hid (dS.length = 32) := by show _ = _; rw [hdS]; exact digT_len _ _
    have HdT : Hid (dT.length = 32) := by show _ = _; rw [hdT]; exact digT_len _ _
    obtain ⟨q, hq⟩ : ∃ q, q = digL n (nodeL dS dT) := ⟨_, rfl⟩
    have HQL : Hid (q.length = 32) := by show _ = _; rw [hq]; exact dig_len _ _
    have HQ : Hid (q = digT n (.inner S.tr T.tr)) := by show _ = _; rw [hq, hdS, hdT]; rfl
    have HDS := Lib.hid hdS
    have HDT := Lib.hid hdT
    have HQ1 := Lib.hid hq
    clear hdS hdT hq
    go_wp2_with fail
    have HC := Lib.hid (digest_n w b n m S HH0.out (by omega) HV0.out HS0.out)
    rw [HPS.out, ← HDS.out] at HC
    refine HC.out.mono ?_
    rintro _ v1 ⟨m1, rfl, hm1, _, hH, hK⟩
    have GS1 := Lib.hid (HS0.out.hs HH0.out hK)
    have GT1 := Lib.hid (HT0.out.hs HH0.out hK)
    have GV1 := Lib.hid (HV0.out.hs HH0.out hK)
    have GH1 := Lib.hid hH
    have GK1 := Lib.hid (HK0.out.trans hK)
    have GM1 := Lib.hid hm1
    clear hm1 hH hK HC HS0 HT0 HH0 HV0 HK0
    go_wp2_with fail
    have HC := Lib.hid (digest_n v1 b n m1 T GH1.out (by have := GM1.out; omega) GV1.out GT1.out)
    rw [HPT.out, ← HDT.out] at HC
    refine HC.out.mono ?_
    rintro _ v2 ⟨m2, rfl, hm2, _, hH, hK⟩
    have GS2 := Lib.hid (GS1.out.hs GH1.out hK)
    have GT2 := Lib.hid (GT1.out.hs GH1.out hK)
    have GV2 := Lib.hid (GV1.out.hs GH1.out hK)
    have GH2 := Lib.hid hH
    have GK2 := Lib.hid (GK1.out.trans hK)
    have GM2 : Hid (m2 ≤ m + 2) := by show _ ≤ _; have := GM1.out; omega
    clear hm2 hH hK HC GS1 GT1 GV1 GH1 GK1 GM1
    go_wp2_with fail
    refine (pnode_c dS dT v2 HdS.out HdT.out).mono ?_
    rintro _ v3 ⟨A1, c1, rfl, hn1, hc1, hA1, hB⟩
    have GH3 := Lib.hid (GH2.out.keep (Keep.of_below (L := fun _ => False) hB) fun h => h)
    have HC := Lib.hid (sum_hs b n m2 A1 (nodeL dS dT) c1 v3 GH3.out (by have := GM2.out; omega) hA1 (by omega) (by omega) (GV2.out.below hB))
    rw [hn1, ← HQ1.out] at HC
    have GS3 := Lib.hid (GS2.out.below hB)
    have GT3 := Lib.hid (GT2.out.below hB)
    have GK3 := Lib.hid (GK2.out.trans (Keep.of_below hB))
    clear hn1 hc1 hA1 hB GS2 GT2 GV2 GH2 GK2
    go_wp2_with fail
    refine HC.out.mono ?_
    rintro _ v4 ⟨rfl, hH, hK⟩
    have GS4 := Lib.hid (GS3.out.hs GH3.out hK)
    have GT4 := Lib.hid (GT3.out.hs GH3.out hK)
    have GH4 := Lib.hid hH
    have GK4 := Lib.hid (GK3.out.trans hK)
    clear hH hK HC GS3 GT3 GH3 GK3
    go_wp2_with fail
    have HC := Lib.hid (len_n v4 n S GS4.out (by have := HL.out; omega))
    rw [HPS.out] at HC
    refine HC.out.mono ?_
    rintro _ v5 ⟨rfl, hB⟩
    have GS5 := Lib.hid (GS4.out.below hB)
    have GT5 := Lib.hid (GT4.out.below hB)
    have GH5 := Lib.hid (GH4.out.keep (Keep.of_below (L := fun _ => False) hB) fun h => h)
    have GK5 := Lib.hid (GK4.out.trans (Keep.of_below hB))
    clear hB HC GS4 GT4 GH4 GK4
    go_wp2_with fail
    have HC := Lib.hid (len_n v5 n T GT5.out (by have := HL.out; omega))
    rw [HPT.out] at HC
    obtain ⟨lS, hlS⟩ : ∃ l, l = lenT S.tr := ⟨_, rfl⟩
    obtain ⟨lT, hlT⟩ : ∃ l, l = lenT T.tr := ⟨_, rfl⟩
    rw [← hlT] at HC
    rw [← hlS]
    have hlb : (lS : Int) + (lT : Int) ≤ 1000000000 := by rw [hlS, hlT]; have := HL.out; omega
    have HLS := Lib.hid hlS
    have HLT := Lib.hid hlT
    clear hlS hlT
    refine HC.out.mono ?_
    rintro _ v6 ⟨rfl, hB⟩
    have GS6 := Lib.hid (GS5.out.below hB)
    have GT6 := Lib.hid (GT5.out.below hB)
    have GH6 := Lib.hid (GH5.out.keep (Keep.of_below (L := fun _ => False) hB) fun h => h)
    have GK6 := Lib.hid (GK5.out.trans (Keep.of_below hB))
    have bi := bldInner
    have bn := bldNode q 75 (.agg #[S.val, T.val, .int .i64 ((lS : Int) + (lT : Int))]) HQL.out v6
    rw [HPS.out, HPT.out] at bn
    clear hB HC GS5 GT5 GH5 GK5
    go_wp2_with fail
    go_ret
    exact join_end GK6.out GH6.out GM2.out GS6.out GT6.out HQ.out (by rw [HPS.out, HPT.out, HLS.out, HLT.out]; push_cast; rfl) HJJ.out
end Go.Proofs.YtdoanibgcogejaaDoor
