import Derived.Test.YtmfbhohjpkmllaaGreatDoorIH
namespace Go.Proofs.YtmfbhohjpkmllaaGreatDoor
set_option linter.unusedSimpArgs false
set_option linter.unusedVariables false
set_option maxHeartbeats 8000000
set_option maxRecDepth 100000
open Go.RowKit
noncomputable def fitB (t : Mt) (ks : List (List UInt8)) : Bool := @decide (FitD t ks 0 0) (Classical.propDecidable _)
theorem fitB_true {t : Mt} {ks : List (List UInt8)} (h : FitD t ks 0 0) : fitB t ks = true := @decide_eq_true _ (Classical.propDecidable _) h
theorem fitB_false {t : Mt} {ks : List (List UInt8)} (h : ¬ FitD t ks 0 0) : fitB t ks = false := @decide_eq_false _ (Classical.propDecidable _) h
theorem rfits19_c (A : Option Addr) (c : Nat) (l : List It) (hl : l.length ≤ 1000000) (t : Mt) (hs : t.Shape) (hf : t.ht ≤ 256) (h : l = t.flat) (B : Option Addr) (cb : Nat) (ks : List (List UInt8)) (hn : ks.length ≤ 100000) (w : World) (hA : IA w A l) (hB : KS w B ks) :
  Calls Tryz.prog 24 #[.slice A l.length c, .slice B ks.length cb] w fun e w' => e = .returned (.bool (fitB t ks)) ∧ Below w.heap.size w w' := by
 obtain ⟨X, hX⟩ : ∃ X, X = w.alloc (.cells (boC (List.replicate l.length false)) 4) := ⟨_, rfl⟩
 have hb0 : Below w.heap.size w X := by rw [hX]; exact Bt.one_below _ _
 have HS0 : Hid (BoAt X w.heap.size (List.replicate l.length false)) := by show BoAt _ _ _; rw [hX]; exact heap_alloc_new w _
 have hmk := make_bools l.length hl w
 obtain ⟨z, hz⟩ : ∃ z, z = fitB t ks := ⟨_, rfl⟩
 rw [← hz]
 have HZ := Lib.hid hz
 have HWY : Hid (∀ k w, k.length = 32 → IA w A l → Calls Tryz.prog 25 #[.slice A l.length c, .agg (bA k)] w fun e w' => ∃ v, e = .returned v ∧ Bt.OwnZ w' w.heap.size v (wayJ k t 0 0) ∧ Below w.heap.size w w') := fun k w hk hA => rway19_c A c l hl t hs hf [] (by rw [h, List.append_nil]) k hk w hA
 have HEND : Hid (∀ k, ∃ i : Nat, (wayJ k t 0 0)[(wayJ k t 0 0).length - 1]? = some (i : Int) ∧ l[i]? = some (finM k t 0)) := fun k => way_end k t 0 0 l [] (by rw [List.drop_zero, h, List.append_nil])
 have HMEM : Hid (∀ k (zz : Int), zz ∈ wayJ k t 0 0 → ∃ n : Nat, zz = n ∧ n < l.length) := fun k zz hz => by
  obtain ⟨n, h1, _, h2⟩ := wayJ_mem hz
  exact ⟨n, h1, by rw [h]; omega⟩
 have HPOS : Hid (∀ k, 0 < (wayJ k t 0 0).length ∧ (wayJ k t 0 0).length ≤ 257) := fun k => ⟨by rw [wayJ_head]; simp, by have := wayJ_le k t 0 0; omega⟩
 have HLT := Lib.hid h
 have HX := Lib.hid hX
 have HB0 := Lib.hid hb0
 have HA := Lib.hid hA
 have HB := Lib.hid hB
 have HLE := Lib.hid hl
 have HN := Lib.hid hn
 have HM0 : Hid (Marked t ks 0 (List.replicate l.length false)) := by
  intro i hi
  constructor
  ·intro h
   rw [List.getElem?_replicate] at h
   split at h
   ·exact absurd (Option.some.inj h) (by decide)
   ·cases h
  ·rintro ⟨m, _, hm, _⟩
   exact absurd hm (Nat.not_lt_zero m)
 clear hX hb0 hA hB hl hn hs hf h hz
 go_enter Tryz.func24, Tryz.ntmps24
 go_wp2_with fail
 rw [← HX.out]
 go_loopg [6] ks.length (fun gg i wr => ∃ (j : Nat) (s : List Bool), i = .int .i64 (j : Int) ∧ j ≤ ks.length ∧ ks.length - j = gg ∧ s.length = l.length ∧ BoAt wr w.heap.size s ∧ Marked t ks j s ∧ (∀ m k, m < j → ks[m]? = some k → (finM k t 0).k ≠ 3) ∧ Below w.heap.size w wr)
 case atStart => exact ⟨0, _, rfl, by omega, by omega, by simp, HS0.out, HM0.out, fun m k hm => absurd hm (Nat.not_lt_zero m), HB0.out⟩
 case round =>
  obtain ⟨j, s, rfl, hj, rfl, hsl, hbo, hmk2, hpre, hbr⟩ := hrel
  have HBR := Lib.hid hbr
  have HPRE := Lib.hid hpre
  have HJ := Lib.hid hj
  have HSL := Lib.hid hsl
  have HBO := Lib.hid hbo
  have HMK := Lib.hid hmk2
  clear hbr hpre hj hsl hbo hmk2 hmk
  by_cases hlt : j < ks.length
  ·have hd : decide (j < ks.length) = true := decide_eq_true hlt
   obtain ⟨k, hk⟩ : ∃ k, ks[j]? = some k := ⟨_, List.getElem?_eq_getElem hlt⟩
   obtain ⟨hkl, g, o, rfl, hr⟩ := HB.out j k hk
   have HK := Lib.hid hk
   have HKL := Lib.hid hkl
   have l1 : ldA 39 wr (.pointer (some ⟨g, o + j * 32, none⟩)) = .ok (.value (.agg (bA k))) wr := range_keyS (range_below hr HBR.out) hkl
   have j0 : (0 : Int) ≤ (j : Int) := by omega
   have j1 : (j : Int) < (ks.length : Int) := by omega
   have n0 : j ≤ 100000 := by have := HN.out; omega
   have wi : IntKind.i64.wrap ((j : Int) + 1) = (j : Int) + 1 := wrap19 (by omega) (by omega)
   have HWC := Lib.hid (HWY.out k wr hkl (HA.out.below HBR.out))
   clear hk hkl hr hlt
   go_wp2_with fail
   refine HWC.out.mono ?_
   rintro _ y1 ⟨v1, rfl, hO, hb1⟩
   obtain ⟨A3, c3, rfl, hZA⟩ := hO.is
   have HB1 : Hid (Below w.heap.size w y1) := HBR.out.trans (hb1.mono HBR.out.size)
   have hbo1 : BoAt y1 w.heap.size s := (hb1.block _ (lt_of_heap HBO.out)).trans HBO.out
   obtain ⟨i, hi1, hi2⟩ := HEND.out k
   obtain ⟨W, hW⟩ : ∃ W, W = wayJ k t 0 0 := ⟨_, rfl⟩
   have HWE := Lib.hid hW
   have hpos := HPOS.out k
   have hmem := HMEM.out k
   rw [← hW] at hi1 hpos hmem hZA ⊢
   have HGB : Hid (∀ b o, A3 = some ⟨b, o, none⟩ → b ≠ w.heap.size) := fun b o e => by
    rcases hO with ⟨_, ⟨e2, _⟩ | ⟨g', cap, cur, e2, hg, _⟩⟩
    ·rw [e] at e2; cases e2
    ·rw [e] at e2
     cases e2
     have := lt_of_heap HBO.out
     omega
   obtain ⟨N, hN⟩ : ∃ N, W.length = N + 1 := ⟨W.length - 1, by omega⟩
   obtain ⟨M, hM⟩ : ∃ M, W.length = M := ⟨_, rfl⟩
   obtain ⟨b3, o3, hA3, hc3⟩ := hZA N (i : Int) (by rw [hN, Nat.add_sub_cancel] at hi1; exact hi1)
   obtain ⟨hxo, g4, o4, hA4, hr4⟩ := (HA.out.below HB1.out) i _ hi2
   have ck := it_kind hr4
   have hil := (List.getElem?_eq_some_iff.1 hi2).1
   have HZA := Lib.hid hZA
   have HBO1 := Lib.hid hbo1
   have HPOS1 := Lib.hid hpos
   have HMEM1 := Lib.hid hmem
   have HI2 := Lib.hid hi2
   have HNE := Lib.hid hN
   subst hA3 hA4
   have HME := Lib.hid hM
   rw [hM]
   have wn : IntKind.i64.wrap ((M : Int) - 1) = (N : Int) := by rw [wrap19 (by omega) (by omega)]; omega
   have m0 : (0 : Int) ≤ (N : Int) := by omega
   have m1 : (N : Int) < (M : Int) := by omega
   have q0 : (0 : Int) ≤ (i : Int) := by omega
   have q1 : (i : Int) < (l.length : Int) := by omega
   have n1 : i ≤ 1000000 := by have := HLE.out; omega
   have n2 : N ≤ 257 := by omega
   obtain ⟨kk, hkk⟩ : ∃ kk, kk = (finM k t 0).k := ⟨_, rfl⟩
   rw [← hkk] at ck
   have HKK := Lib.hid hkk
   clear hO hb1 hbo1 hi1 hpos hmem hZA hN hM hxo hr4 hi2 hW hil HWC l1 hkk
   by_cases h3 : kk = 3
   ·subst h3
    have HZV : Hid (z = false) := HZ.out.trans (fitB_false fun hfit => hfit.1 k (List.mem_of_getElem? HK.out) HKK.out.symm)
    go_wp2_with fail
    go_ret
    exact ⟨b_ret HZV.out, HB1.out⟩
   have b3' : (kk == 3) = false := by simpa using h3
   have H3 : Hid ((finM k t 0).k ≠ 3) := by rw [← HKK.out]; exact h3
   clear h3
   go_wp2_with fail
   go_loopg [8] M (fun gg iv wX => ∃ (m : Nat) (s2 : List Bool), iv = .int .i64 (m : Int) ∧ m ≤ M ∧ M - m = gg ∧ s2.length = l.length ∧ BoAt wX w.heap.size s2 ∧ (∀ i : Nat, i < l.length → (s2[i]? = some true ↔ s[i]? = some true ∨ ∃ p, p < m ∧ W[p]? = some (i : Int))) ∧ Keep (fun b => b = w.heap.size) y1 wX)
   case atStart => exact ⟨0, s, rfl, by omega, by omega, HSL.out, HBO1.out, fun i _ => ⟨fun h => .inl h, fun h => h.elim id fun ⟨p, hp, _⟩ => absurd hp (Nat.not_lt_zero p)⟩, Keep.refl _ _⟩
   case round =>
    obtain ⟨m, s2, rfl, hm, rfl, hs2, hbo2, hmk3, hkp⟩ := hrel
    have HM := Lib.hid hm
    have HS2 := Lib.hid hs2
    have HBO2 := Lib.hid hbo2
    have HMK3 := Lib.hid hmk3
    have HKP := Lib.hid hkp
    have HBK : Hid (Below w.heap.size w wr) := HB1.out.trans (hkp.below HB1.out.size fun b e => by have e : b = w.heap.size := e; omega)
    clear hm hs2 hbo2 hmk3 hkp ck
    by_cases hlt : m < M
    ·have hd2 : decide (m < M) = true := decide_eq_true hlt
     obtain ⟨zz, hzz⟩ : ∃ zz, W[m]? = some zz := ⟨_, List.getElem?_eq_getElem (by rw [HME.out]; exact hlt)⟩
     obtain ⟨n, rfl, hnl⟩ := HMEM1.out zz (List.mem_of_getElem? hzz)
     obtain ⟨b5, o5, hA5, hc5⟩ := HZA.out m _ hzz
     have hne : b5 ≠ w.heap.size := HGB.out b5 o5 hA5
     cases hA5
     have c5 : wr.cell? ⟨b3, o3 + m, none⟩ = some (.int .i64 (n : Int)) := HKP.out.cellAt hc5 hne
     obtain ⟨bb, hbb⟩ : ∃ bb, s2[n]? = some bb := ⟨_, List.getElem?_eq_getElem (by rw [HS2.out]; exact hnl)⟩
     have cs := HBO2.out.cell hbb
     have fs : wr.frozen? ⟨w.heap.size, n, none⟩ = false := frozen_of_row wr _ _ _ _ HBO2.out
     have HWM := Lib.hid hzz
     have HNL := Lib.hid hnl
     have p0 : (0 : Int) ≤ (m : Int) := by omega
     have p1 : (m : Int) < (M : Int) := by omega
     have p2 : (0 : Int) ≤ (n : Int) := by omega
     have p3 : (n : Int) < (l.length : Int) := by omega
     have p4 : m ≤ 1000 := by have h1 := HPOS1.out.2; have h2 := HME.out; omega
     have p5 : n ≤ 1000000 := by have := HLE.out; omega
     have wj : IntKind.i64.wrap ((m : Int) + 1) = (m : Int) + 1 := wrap19 (by omega) (by omega)
     have HKW : Hid (Keep (fun b => b = w.heap.size) y1 (wr.setCell ⟨w.heap.size, n, none⟩ (.bool true))) := HKP.out.trans (Keep.cell wr ⟨w.heap.size, n, none⟩ _)
     have HBS : Hid (BoAt (wr.setCell ⟨w.heap.size, n, none⟩ (.bool true)) w.heap.size (s2.set n true)) := HBO2.out.set n true
     clear hzz hc5 hne hbb hlt
     go_wp2_with fail
     go_roundg (M - (m + 1))
     case measure => omega
     case rel =>
      refine ⟨m + 1, s2.set n true, by go_num, by omega, rfl, by rw [List.length_set]; exact HS2.out, HBS.out, fun i hi => ?_, HKW.out⟩
      rw [List.getElem?_set]
      have hq := HMK3.out i hi
      by_cases he : n = i
      ·subst he
       rw [if_pos rfl, if_pos (by rw [HS2.out]; exact hi)]
       exact ⟨fun _ => .inr ⟨m, by omega, HWM.out⟩, fun _ => rfl⟩
      ·rw [if_neg he, hq]
       constructor
       ·rintro (h | ⟨p, hp, h⟩)
        ·exact .inl h
        ·exact .inr ⟨p, by omega, h⟩
       ·rintro (h | ⟨p, hp, h⟩)
        ·exact .inl h
        ·rcases Nat.lt_or_ge p m with h2 | h2
         ·exact .inr ⟨p, h2, h⟩
         ·obtain rfl : p = m := by omega
          rw [HWM.out] at h
          have := Option.some.inj h
          omega
    ·obtain rfl : m = M := by have := HM.out; omega
     have hd2 : decide (m < m) = false := by simp
     have HREL : Hid (Marked t ks (j + 1) s2) := fun i hi => by
      rw [HMK3.out i (by rw [← HS2.out]; exact hi), HMK.out i (by rw [HSL.out, ← HS2.out]; exact hi)]
      constructor
      ·rintro (⟨q, k2, hq, h1, h2⟩ | ⟨p, hp, h⟩)
       ·exact ⟨q, k2, by omega, h1, h2⟩
       ·exact ⟨j, k, by omega, HK.out, by rw [← HWE.out]; exact List.mem_of_getElem? h⟩
      ·rintro ⟨q, k2, hq, h1, h2⟩
       rcases Nat.lt_or_ge q j with h3 | h3
       ·exact .inl ⟨q, k2, h3, h1, h2⟩
       ·obtain rfl : q = j := by omega
        rw [HK.out] at h1
        cases h1
        rw [← HWE.out] at h2
        obtain ⟨p, hp⟩ := List.getElem?_of_mem h2
        exact .inr ⟨p, by have := (List.getElem?_eq_some_iff.1 hp).1; have := HME.out; omega, hp⟩
     clear hlt
     go_wp2_with fail
     go_roundg (ks.length - (j + 1))
     case measure => omega
     case rel =>
      refine ⟨j + 1, s2, by go_num, by omega, rfl, HS2.out, HBO2.out, HREL.out, fun q k2 h1 h2 => ?_, HBK.out⟩
      rcases Nat.lt_or_ge q j with h3 | h3
      ·exact HPRE.out q k2 h3 h2
      ·obtain rfl : q = j := by omega
       rw [HK.out] at h2
       cases h2
       exact H3.out
  ·obtain rfl : j = ks.length := by have := HJ.out; omega
   have hd : decide (ks.length < ks.length) = false := by simp
   clear hlt
   go_wp2_with fail
   go_loopg [9] l.length (fun gg iv wX => ∃ m : Nat, iv = .int .i64 (m : Int) ∧ m ≤ l.length ∧ l.length - m = gg ∧ (∀ (i : Nat) x, i < m → l[i]? = some x → x.k = 2 → s[i]? = some true) ∧ Below wr.heap.size wr wX)
   case atStart => exact ⟨0, rfl, by omega, by omega, fun i x hi => absurd hi (Nat.not_lt_zero i), Below.refl _ _⟩
   case round =>
    obtain ⟨m, rfl, hm, rfl, hpr, hb2⟩ := hrel
    have HM := Lib.hid hm
    have HPR := Lib.hid hpr
    have HB2 := Lib.hid hb2
    have HBW : Hid (Below w.heap.size w wr) := HBR.out.trans (hb2.mono HBR.out.size)
    have HBO2 : Hid (BoAt wr w.heap.size s) := (hb2.block _ (lt_of_heap HBO.out)).trans HBO.out
    clear hm hpr hb2 hd
    by_cases hlt : m < l.length
    ·have hd : decide (m < l.length) = true := decide_eq_true hlt
     obtain ⟨x, hx⟩ : ∃ x, l[m]? = some x := ⟨_, List.getElem?_eq_getElem hlt⟩
     obtain ⟨_, g, o, rfl, hr⟩ := (HA.out.below HBW.out) m x hx
     have HXK := Lib.hid hx
     have ck := it_kind hr
     obtain ⟨bb, hbb⟩ : ∃ bb, s[m]? = some bb := ⟨_, List.getElem?_eq_getElem (by rw [HSL.out]; exact hlt)⟩
     have cs := HBO2.out.cell hbb
     have HBB := Lib.hid hbb
     have p0 : (0 : Int) ≤ (m : Int) := by omega
     have p1 : (m : Int) < (l.length : Int) := by omega
     have p5 : m ≤ 1000000 := by have := HLE.out; omega
     have wj : IntKind.i64.wrap ((m : Int) + 1) = (m : Int) + 1 := wrap19 (by omega) (by omega)
     clear hx hr hbb hlt
     by_cases hk2 : x.k = 2
     ·have HK2 := Lib.hid hk2
      rw [hk2] at ck
      clear hk2
      cases bb with
      | false =>
       have HZV : Hid (z = false) := HZ.out.trans (fitB_false fun hfit => by
        obtain ⟨k, hk, hw⟩ := (FitD.of.1 hfit).2 m x (by rw [← HLT.out]; exact HXK.out) HK2.out
        obtain ⟨q, hq⟩ := List.getElem?_of_mem hk
        have h1 := (HMK.out m (List.getElem?_eq_some_iff.1 HBB.out).1).2 ⟨q, k, (List.getElem?_eq_some_iff.1 hq).1, hq, hw⟩
        rw [HBB.out] at h1
        exact absurd (Option.some.inj h1) (by decide))
       go_wp2_with fail
       go_ret
       exact ⟨b_ret HZV.out, HBW.out⟩
      | true =>
       go_wp2_with fail
       go_roundg (l.length - (m + 1))
       case measure => omega
       case rel =>
        refine ⟨m + 1, by go_num, by omega, rfl, fun i x2 hi h1 h2 => ?_, HB2.out⟩
        rcases Nat.lt_or_ge i m with h3 | h3
        ·exact HPR.out i x2 h3 h1 h2
        ·obtain rfl : i = m := by omega
         exact HBB.out
     ·have b2 : (x.k == 2) = false := by simpa using hk2
      have HK2 := Lib.hid hk2
      clear hk2
      go_wp2_with fail
      go_roundg (l.length - (m + 1))
      case measure => omega
      case rel =>
       refine ⟨m + 1, by go_num, by omega, rfl, fun i x2 hi h1 h2 => ?_, HB2.out⟩
       rcases Nat.lt_or_ge i m with h3 | h3
       ·exact HPR.out i x2 h3 h1 h2
       ·obtain rfl : i = m := by omega
        rw [HXK.out] at h1
        cases h1
        exact absurd h2 HK2.out
    ·obtain rfl : m = l.length := by have := HM.out; omega
     have hd : decide (l.length < l.length) = false := by simp
     have HZV : Hid (z = true) := HZ.out.trans (fitB_true (FitD.of.2 ⟨fun k hk => by
      obtain ⟨q, hq⟩ := List.getElem?_of_mem hk
      exact HPRE.out q k (List.getElem?_eq_some_iff.1 hq).1 hq, fun i x h1 h2 => by
      rw [← HLT.out] at h1
      have h3 := HPR.out i x (List.getElem?_eq_some_iff.1 h1).1 h1 h2
      obtain ⟨q, k, _, hq, hw⟩ := (HMK.out i (List.getElem?_eq_some_iff.1 h3).1).1 h3
      exact ⟨k, List.mem_of_getElem? hq, hw⟩⟩))
     clear hlt
     go_wp2_with fail
     go_ret
     exact ⟨b_ret HZV.out, HBW.out⟩
end Go.Proofs.YtmfbhohjpkmllaaGreatDoor
