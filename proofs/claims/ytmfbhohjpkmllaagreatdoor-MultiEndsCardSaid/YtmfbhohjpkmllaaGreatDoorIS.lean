import Derived.Test.YtmfbhohjpkmllaaGreatDoorIR
import Derived.Test.YtmfbhohjpkmllaaGreatDoorIK
import Derived.BigQuiet
namespace Go.Proofs.YtmfbhohjpkmllaaGreatDoor
set_option linter.unusedSimpArgs false
set_option linter.unusedVariables false
set_option maxHeartbeats 16000000
set_option maxRecDepth 100000
section
open Go.RowKit
theorem ends19_far (al : Alive19) (A B : Option Addr) (n c m cb : Nat) (W : World) (hv : Vars W) (h : ¬ n ≤ 1200) :
  Calls Tryz.prog 6 #[.slice A n c, .slice B m cb] W (Aye W) := by
 have HF := Lib.hid (few19_no n c A W h)
 have HAL := Lib.hid (al W hv)
 clear h hv al
 go_enter Tryz.func6, Tryz.ntmps6
 go_wp2_with fail
 refine HF.out.mono ?_
 rintro _ _ ⟨rfl, rfl⟩
 go_wp2_with fail
 refine HAL.out.mono ?_
 rintro _ w4 ⟨rfl, hb⟩
 have HB := Lib.hid hb
 clear hb HAL
 go_wp2_with fail
 go_ret
 exact ⟨rfl, HB.out⟩
theorem ends19_many (al : Alive19) (A B : Option Addr) (n c m cb : Nat) (W : World) (hv : Vars W) (h : n ≤ 1200) (h30 : ¬ m ≤ 30) :
  Calls Tryz.prog 6 #[.slice A n c, .slice B m cb] W (Aye W) := by
 have HF := Lib.hid (few19_yes n c A W h)
 have HAL := Lib.hid (al W hv)
 have d30 : decide ((30 : Int) < (m : Int)) = true := decide_eq_true (by omega)
 clear h hv al h30
 go_enter Tryz.func6, Tryz.ntmps6
 go_wp2_with fail
 refine HF.out.mono ?_
 rintro _ _ ⟨rfl, rfl⟩
 go_wp2_with fail
 refine HAL.out.mono ?_
 rintro _ w4 ⟨rfl, hb⟩
 have HB := Lib.hid hb
 clear hb HAL
 go_wp2_with fail
 go_ret
 exact ⟨rfl, HB.out⟩
theorem ends19_form {M : World → Int → Tv → Prop} (mu : MuV M) (al : Alive19) (A B : Option Addr) (l : List It) (c : Nat) (ks : List (List UInt8)) (cb : Nat) (W : World) (hv : Vars W) (hA : IA W A l) (hc : l.length ≤ c) (hB : KS W B ks) (hcb : ks.length ≤ cb) (h : l.length ≤ 1200) (h30 : ks.length ≤ 30) (hz : chkI l ≠ 0) :
  Calls Tryz.prog 6 #[.slice A l.length c, .slice B ks.length cb] W (Aye W) := by
 have HF := Lib.hid (few19_yes l.length c A W h)
 have HVX := Lib.hid hv
 have HAL := Lib.hid al
 have d30 : decide ((30 : Int) < (ks.length : Int)) = false := decide_eq_false (by omega)
 have HE := mu.endsBad W l ks A B c cb hA hc (by omega) hB hcb (by omega) (.inl hz)
 rw [if_pos hz] at HE
 have HA := Lib.hid hA
 have HL : Hid (l.length ≤ 1000000) := Nat.le_trans h (by decide)
 obtain ⟨z, hzz⟩ : ∃ z, z = chkI l := ⟨_, rfl⟩
 have HZ := Lib.hid hzz
 rw [← hzz] at HE hz
 have HE := Lib.hid HE
 clear h hv al h30 hA hc hB hcb hzz
 go_enter Tryz.func6, Tryz.ntmps6
 go_wp2_with fail
 refine HF.out.mono ?_
 rintro _ _ ⟨rfl, rfl⟩
 go_wp2_with fail
 refine HE.out.mono ?_
 rintro _ w2 ⟨A', c', rfl, hb2⟩
 have HB2 := Lib.hid hb2
 have HCK := rcheck19_c A c l w2 (HA.out.below hb2) HL.out
 rw [← HZ.out] at HCK
 have HCK := Lib.hid HCK
 clear hb2 HE
 go_wp2_with fail
 refine HCK.out.mono ?_
 rintro _ w3 ⟨rfl, hb3⟩
 have HB3 := Lib.hid (keeps HB2.out hb3)
 clear hb3 HCK
 go_wp2_with fail
 refine (HAL.out w3 (HVX.out.below HB3.out)).mono ?_
 rintro _ w4 ⟨rfl, hb4⟩
 have HB4 := Lib.hid (keeps HB3.out hb4)
 clear hb4
 go_wp2_with fail
 go_ret
 exact ⟨rfl, HB4.out⟩
theorem ends19_keys {M : World → Int → Tv → Prop} (mu : MuV M) (al : Alive19) (A B : Option Addr) (l : List It) (c : Nat) (ks : List (List UInt8)) (cb : Nat) (W : World) (hv : Vars W) (hA : IA W A l) (hc : l.length ≤ c) (hB : KS W B ks) (hcb : ks.length ≤ cb) (h : l.length ≤ 1200) (h30 : ks.length ≤ 30) (hz0 : chkI l = 0) (hz : keysI ks ≠ 0) :
  Calls Tryz.prog 6 #[.slice A l.length c, .slice B ks.length cb] W (Aye W) := by
 have HF := Lib.hid (few19_yes l.length c A W h)
 have HVX := Lib.hid hv
 have HAL := Lib.hid al
 have d30 : decide ((30 : Int) < (ks.length : Int)) = false := decide_eq_false (by omega)
 have HE := mu.endsBad W l ks A B c cb hA hc (by omega) hB hcb (by omega) (.inr hz)
 rw [if_neg (fun hn => hn hz0)] at HE
 have HA := Lib.hid hA
 have HK := Lib.hid hB
 have HL : Hid (l.length ≤ 1000000) := Nat.le_trans h (by decide)
 have HKL : Hid (ks.length ≤ 100000) := Nat.le_trans h30 (by decide)
 have HZ0 := Lib.hid hz0
 obtain ⟨z, hzz⟩ : ∃ z, z = keysI ks := ⟨_, rfl⟩
 have HZ := Lib.hid hzz
 rw [← hzz] at HE hz
 have HE := Lib.hid HE
 clear h hv al h30 hA hc hB hcb hzz hz0
 go_enter Tryz.func6, Tryz.ntmps6
 go_wp2_with fail
 refine HF.out.mono ?_
 rintro _ _ ⟨rfl, rfl⟩
 go_wp2_with fail
 refine HE.out.mono ?_
 rintro _ w2 ⟨A', c', rfl, hb2⟩
 have HB2 := Lib.hid hb2
 have HCK := rcheck19_c A c l w2 (HA.out.below hb2) HL.out
 rw [HZ0.out] at HCK
 have HCK := Lib.hid HCK
 clear hb2 HE
 go_wp2_with fail
 refine HCK.out.mono ?_
 rintro _ w3 ⟨rfl, hb3⟩
 have HB3 := Lib.hid (keeps HB2.out hb3)
 have HRK := rkeys19_c B cb ks w3 (HK.out.below HB3.out) HKL.out
 rw [← HZ.out] at HRK
 have HRK := Lib.hid HRK
 clear hb3 HCK
 go_wp2_with fail
 refine HRK.out.mono ?_
 rintro _ w3a ⟨rfl, hb3⟩
 have HB3a := Lib.hid (keeps HB3.out hb3)
 clear hb3 HRK
 go_wp2_with fail
 refine (HAL.out w3a (HVX.out.below HB3a.out)).mono ?_
 rintro _ w4 ⟨rfl, hb4⟩
 have HB4 := Lib.hid (keeps HB3a.out hb4)
 clear hb4
 go_wp2_with fail
 go_ret
 exact ⟨rfl, HB4.out⟩
theorem ends19_not {M : World → Int → Tv → Prop} (mu : MuV M) (al : Alive19) (A B : Option Addr) (l : List It) (t : Mt) (hg : t.Good) (ht : l = t.flat) (c : Nat) (ks : List (List UInt8)) (cb : Nat) (W : World) (hv : Vars W) (hA : IA W A l) (hc : l.length ≤ c) (hB : KS W B ks) (hcb : ks.length ≤ cb) (h : l.length ≤ 1200) (h30 : ks.length ≤ 30) (hz0 : chkI l = 0) (hz : keysI ks = 0) (hfit : ¬ FitD t ks 0 0) :
  Calls Tryz.prog 6 #[.slice A l.length c, .slice B ks.length cb] W (Aye W) := by
 have HF := Lib.hid (few19_yes l.length c A W h)
 have HVX := Lib.hid hv
 have HAL := Lib.hid al
 have d30 : decide ((30 : Int) < (ks.length : Int)) = false := decide_eq_false (by omega)
 have HE := mu.endsNot W t ks A B c cb hg (by rw [← ht]; exact hA) (by rw [← ht]; exact hc) (by rw [← ht]; omega) hB hcb (by omega) hz hfit
 rw [← ht] at HE
 have HA := Lib.hid hA
 have HK := Lib.hid hB
 have HL : Hid (l.length ≤ 1000000) := Nat.le_trans h (by decide)
 have HKL : Hid (ks.length ≤ 100000) := Nat.le_trans h30 (by decide)
 have HZ0 := Lib.hid hz0
 have HZ := Lib.hid hz
 have HG := Lib.hid hg
 have HT := Lib.hid ht
 have HFT := Lib.hid (fitB_false hfit)
 have HE := Lib.hid HE
 clear h hv al h30 hA hc hB hcb hz hz0 hg ht hfit
 go_enter Tryz.func6, Tryz.ntmps6
 go_wp2_with fail
 refine HF.out.mono ?_
 rintro _ _ ⟨rfl, rfl⟩
 go_wp2_with fail
 refine HE.out.mono ?_
 rintro _ w2 ⟨A', c', rfl, hb2⟩
 have HB2 := Lib.hid hb2
 have HCK := rcheck19_c A c l w2 (HA.out.below hb2) HL.out
 rw [HZ0.out] at HCK
 have HCK := Lib.hid HCK
 clear hb2 HE
 go_wp2_with fail
 refine HCK.out.mono ?_
 rintro _ w3 ⟨rfl, hb3⟩
 have HB3 := Lib.hid (keeps HB2.out hb3)
 have HRK := rkeys19_c B cb ks w3 (HK.out.below HB3.out) HKL.out
 rw [HZ.out] at HRK
 have HRK := Lib.hid HRK
 clear hb3 HCK
 go_wp2_with fail
 refine HRK.out.mono ?_
 rintro _ w3a ⟨rfl, hb3⟩
 have HB3a := Lib.hid (keeps HB3.out hb3)
 have HRF := rfits19_c A c l HL.out t HG.out.1 HG.out.2.1 HT.out B cb ks HKL.out w3a (HA.out.below HB3a.out) (HK.out.below HB3a.out)
 rw [HFT.out] at HRF
 have HRF := Lib.hid HRF
 clear hb3 HRK
 go_wp2_with fail
 refine HRF.out.mono ?_
 rintro _ w3b ⟨rfl, hb3⟩
 have HB3b := Lib.hid (keeps HB3a.out hb3)
 clear hb3 HRF
 go_wp2_with fail
 refine (HAL.out w3b (HVX.out.below HB3b.out)).mono ?_
 rintro _ w4 ⟨rfl, hb4⟩
 have HB4 := Lib.hid (keeps HB3b.out hb4)
 clear hb4
 go_wp2_with fail
 go_ret
 exact ⟨rfl, HB4.out⟩
end
section
open Go.RowKit
theorem ends19_fit {M : World → Int → Tv → Prop} (mu : MuV M) (al : Alive19) (A B : Option Addr) (l : List It) (t : Mt) (hg : t.Good) (ht : l = t.flat) (c : Nat) (ks : List (List UInt8)) (cb : Nat) (W : World) (hv : Vars W) (hA : IA W A l) (hc : l.length ≤ c) (hB : KS W B ks) (hcb : ks.length ≤ cb) (h : l.length ≤ 1200) (h30 : ks.length ≤ 30) (hz0 : chkI l = 0) (hz : keysI ks = 0) (hfit : FitD t ks 0 0) :
  Calls Tryz.prog 6 #[.slice A l.length c, .slice B ks.length cb] W (Aye W) := by
 have HF := Lib.hid (few19_yes l.length c A W h)
 have HVX := Lib.hid hv
 have HAL := Lib.hid al
 have d30 : decide ((30 : Int) < (ks.length : Int)) = false := decide_eq_false (by omega)
 have HE := mu.ends W t ks A B c cb hg (by rw [← ht]; exact hA) (by rw [← ht]; exact hc) (by rw [← ht]; omega) hB hcb (by omega) hz hfit
 rw [← ht] at HE
 have HA := Lib.hid hA
 have HK := Lib.hid hB
 have HL : Hid (l.length ≤ 1000000) := Nat.le_trans h (by decide)
 have HKL : Hid (ks.length ≤ 100000) := Nat.le_trans h30 (by decide)
 have HZ0 := Lib.hid hz0
 have HZ := Lib.hid hz
 have HG := Lib.hid hg
 have HT := Lib.hid ht
 have HFT := Lib.hid (fitB_true hfit)
 have HE := Lib.hid HE
 have HWY : Hid (∀ k w, k.length = 32 → IA w A l → Calls Tryz.prog 25 #[.slice A l.length c, .agg (bA k)] w fun e w' => ∃ v, e = .returned v ∧ Bt.OwnZ w' w.heap.size v (wayJ k t 0 0) ∧ Below w.heap.size w w') := fun k w hk hA => rway19_c A c l HL.out t hg.1 hg.2.1 [] (by rw [ht, List.append_nil]) k hk w hA
 have HEND : Hid (∀ k, ∃ i : Nat, (wayJ k t 0 0)[(wayJ k t 0 0).length - 1]? = some (i : Int) ∧ l[i]? = some (finM k t 0)) := fun k => way_end k t 0 0 l [] (by rw [List.drop_zero, ht, List.append_nil])
 have HLEN : Hid (∀ k, (wayJ k t 0 0).length = depM k t 0 + 1 ∧ depM k t 0 ≤ 256) := fun k => ⟨by have := wayJ_len k t 0 0; omega, by have := wayJ_le k t 0 0; have := wayJ_len k t 0 0; have := hg.2.1; omega⟩
 clear h hv al h30 hA hc hB hcb hz hz0 hg ht hfit
 go_enter Tryz.func6, Tryz.ntmps6
 go_wp2_with fail
 refine HF.out.mono ?_
 rintro _ _ ⟨rfl, rfl⟩
 go_wp2_with fail
 refine HE.out.mono ?_
 rintro _ w2 ⟨A', c', rfl, hea, hcc, hb2⟩
 have HB2 := Lib.hid hb2
 have HEA := Lib.hid hea
 have HCK := rcheck19_c A c l w2 (HA.out.below hb2) HL.out
 rw [HZ0.out] at HCK
 have HCK := Lib.hid HCK
 clear hb2 HE hea hcc
 go_wp2_with fail
 refine HCK.out.mono ?_
 rintro _ w3 ⟨rfl, hb3⟩
 have HB3 := Lib.hid (keeps HB2.out hb3)
 have HEA := Lib.hid (HEA.out.below hb3)
 have HRK := rkeys19_c B cb ks w3 (HK.out.below HB3.out) HKL.out
 rw [HZ.out] at HRK
 have HRK := Lib.hid HRK
 clear hb3 HCK
 go_wp2_with fail
 refine HRK.out.mono ?_
 rintro _ w3a ⟨rfl, hb3⟩
 have HB3a := Lib.hid (keeps HB3.out hb3)
 have HEA := Lib.hid (HEA.out.below hb3)
 have HRF := rfits19_c A c l HL.out t HG.out.1 HG.out.2.1 HT.out B cb ks HKL.out w3a (HA.out.below HB3a.out) (HK.out.below HB3a.out)
 rw [HFT.out] at HRF
 have HRF := Lib.hid HRF
 clear hb3 HRK
 go_wp2_with fail
 refine HRF.out.mono ?_
 rintro _ w3b ⟨rfl, hb3⟩
 have HB3b := Lib.hid (keeps HB3a.out hb3)
 have HEA := Lib.hid (HEA.out.below hb3)
 clear hb3 HRF
 go_wp2_with fail
 go_loopg [8, 9, 10, 64] ks.length (fun gg _ _ _ i wr => ∃ (j : Nat), i = .int .i64 (j : Int) ∧ j ≤ ks.length ∧ ks.length - j = gg ∧ Below w3b.heap.size w3b wr)
 case atStart => exact ⟨0, rfl, by omega, by omega, Below.refl _ _⟩
 case round =>
  obtain ⟨j, rfl, hj, rfl, hbr⟩ := hrel
  have HBR := Lib.hid hbr
  have HBW := Lib.hid (keeps HB3b.out hbr)
  have HJ := Lib.hid hj
  clear hbr hj
  by_cases hlt : j < ks.length
  ·have hd : decide (j < ks.length) = true := decide_eq_true hlt
   obtain ⟨k, hk⟩ : ∃ k, ks[j]? = some k := ⟨_, List.getElem?_eq_getElem hlt⟩
   obtain ⟨hkl, g, o, rfl, hr⟩ := HK.out j k hk
   have HKK := Lib.hid hk
   have HKL2 := Lib.hid hkl
   have l1 : ldA 39 wr (.pointer (some ⟨g, o + j * 32, none⟩)) = .ok (.value (.agg (bA k))) wr := range_keyS (range_below hr HBW.out) hkl
   have j0 : (0 : Int) ≤ (j : Int) := by omega
   have j1 : (j : Int) < (ks.length : Int) := by omega
   have n0 : j ≤ 100000 := by have := HKL.out; omega
   have wi : IntKind.i64.wrap ((j : Int) + 1) = (j : Int) + 1 := wrap19 (by omega) (by omega)
   obtain ⟨Y, hY⟩ : ∃ Y, Y = wr.alloc (.cells (bA k) 39) := ⟨_, rfl⟩
   have st : stA 39 (wr.alloc (.cells (Bt.kc Bt.kz) 39)) (.pointer (some ⟨wr.heap.size, 0, none⟩)) (.agg (bA k)) = .ok .skip Y := by
    rw [hY]
    exact stA_new (t := 39) wr (Bt.kc Bt.kz) (bA k) (by rw [bA_size, hkl]; exact infoKey) (by rw [bA_size, Bt.kc_size, hkl]) (bA_one _)
   have lk : ldA 39 Y (.pointer (some ⟨wr.heap.size, 0, none⟩)) = .ok (.value (.agg (bA k))) Y := by
    rw [hY]
    exact ldA_row (heap_alloc_new wr _) Tryz.underlying39 (by rw [bA_size, hkl]; exact infoKey)
   have hbY : Below wr.heap.size wr Y := by rw [hY]; exact Bt.one_below _ _
   have HBY := Lib.hid (keeps HBW.out hbY)
   have HB3Y := Lib.hid (keeps HBR.out hbY)
   have HWC := Lib.hid (HWY.out k Y hkl (HA.out.below HBY.out))
   clear hk hkl hr hlt hY hbY
   go_wp2_with fail
   refine HWC.out.mono ?_
   rintro _ y1 ⟨v1, rfl, hO, hb1⟩
   obtain ⟨A3, c3, rfl, hZA⟩ := hO.is
   have HB1 := Lib.hid (keeps HBY.out hb1)
   have HB31 := Lib.hid (keeps HB3Y.out hb1)
   obtain ⟨i, hi1, hi2⟩ := HEND.out k
   obtain ⟨hwl, hdl⟩ := HLEN.out k
   obtain ⟨D, hD⟩ : ∃ D, D = depM k t 0 := ⟨_, rfl⟩
   obtain ⟨L, hL⟩ : ∃ L, (wayJ k t 0 0).length = L := ⟨_, rfl⟩
   rw [hwl, Nat.add_sub_cancel] at hi1
   rw [hwl] at hL
   rw [hwl, hL]
   obtain ⟨b3, o3, hA3, hc3⟩ := hZA _ (i : Int) hi1
   obtain ⟨hxo, g4, o4, hA4, hr4⟩ := (HA.out.below HB1.out) i _ hi2
   have hil := (List.getElem?_eq_some_iff.1 hi2).1
   obtain ⟨hyo, g5, o5, hA5, hr5, hc5⟩ := HEA.out.below HB31.out j (finM k t 0, depM k t 0) (by unfold endsM; rw [List.getElem?_map, HKK.out]; rfl)
   have l5 := fun a : Nat => it_ld (range_below hr5 (Bt.below_drewN (Below.refl y1.heap.size y1) a)) hyo
   have l4 := fun a : Nat => it_ld (range_below hr4 (Bt.below_drewN (Below.refl y1.heap.size y1) a)) hxo
   have HXO := Lib.hid hxo
   obtain ⟨fx, hfx⟩ : ∃ fx, fx = finM k t 0 := ⟨_, rfl⟩
   have ne : ∀ x y w, eqA .neq 59 x y w (.agg (itC fx)) (.agg (itC fx)) = .ok (.value (.bool false)) w := fun x y w => by
    have := neIt fx fx (by rw [hfx]; exact HXO.out) (by rw [hfx]; exact HXO.out) x y w
    rw [this, decide_eq_true rfl]
    rfl
   simp only at hc5 l5 hwl hdl hi1 hc3 l4
   rw [← hfx] at l4 l5
   rw [← hD] at hc5 hdl hc3 hL
   subst hA3 hA4 hA5
   have wn : IntKind.i64.wrap ((L : Int) - 1) = (D : Int) := by rw [wrap19 (by omega) (by omega)]; omega
   have m0 : (0 : Int) ≤ (D : Int) := by omega
   have m1 : (D : Int) < (L : Int) := by omega
   have n1 : i ≤ 1000000 := by have := HL.out; omega
   have q0 : (0 : Int) ≤ (i : Int) := by omega
   have q1 : (i : Int) < (l.length : Int) := by omega
   clear hO hb1 hi1 hZA hxo hr4 hr5 hyo hi2 hil HWC l1 st lk hfx hD hwl hL
   go_wp2_with fail
   go_quiet (fail)
   go_wp2_with fail
   go_roundg (ks.length - (j + 1))
   case measure => omega
   case rel => exact ⟨j + 1, by go_num, by omega, rfl, Bt.below_drewN HB31.out _⟩
  ·obtain rfl : j = ks.length := by have := HJ.out; omega
   have hd : decide (ks.length < ks.length) = false := by simp
   have HAW := Lib.hid (HAL.out wr (HVX.out.below HBW.out))
   clear hlt
   go_wp2_with fail
   refine HAW.out.mono ?_
   rintro _ y2 ⟨rfl, hb2⟩
   have HB4 := Lib.hid (keeps HBW.out hb2)
   clear hb2 HAW
   go_wp2_with fail
   go_ret
   exact ⟨rfl, HB4.out⟩
theorem ends19_w {M : World → Int → Tv → Prop} (mu : MuV M) (al : Alive19) (A B : Option Addr) (l : List It) (c : Nat) (ks : List (List UInt8)) (cb : Nat) (W : World) (hv : Vars W) (hA : IA W A l) (hc : l.length ≤ c) (hB : KS W B ks) (hcb : ks.length ≤ cb) :
  Calls Tryz.prog 6 #[.slice A l.length c, .slice B ks.length cb] W (Aye W) := by
 by_cases h : l.length ≤ 1200
 ·by_cases h30 : ks.length ≤ 30
  ·by_cases hz0 : chkI l = 0
   ·by_cases hz : keysI ks = 0
    ·obtain ⟨t, hg, ht⟩ := chkI_ok.1 hz0
     by_cases hfit : FitD t ks 0 0
     ·exact ends19_fit mu al A B l t hg ht c ks cb W hv hA hc hB hcb h h30 hz0 hz hfit
     ·exact ends19_not mu al A B l t hg ht c ks cb W hv hA hc hB hcb h h30 hz0 hz hfit
    ·exact ends19_keys mu al A B l c ks cb W hv hA hc hB hcb h h30 hz0 hz
   ·exact ends19_form mu al A B l c ks cb W hv hA hc hB hcb h h30 hz0
  ·exact ends19_many al A B l.length c ks.length cb W hv h h30
 ·exact ends19_far al A B l.length c ks.length cb W hv h
end
end Go.Proofs.YtmfbhohjpkmllaaGreatDoor
