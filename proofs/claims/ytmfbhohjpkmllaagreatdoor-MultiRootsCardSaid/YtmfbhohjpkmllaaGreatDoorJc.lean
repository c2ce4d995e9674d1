import Derived.BigQuiet
import Derived.Test.YtmfbhohjpkmllaaGreatDoorJa
import Derived.Test.YtmfbhohjpkmllaaGreatDoorRo
namespace Go.Proofs.YtmfbhohjpkmllaaGreatDoor
set_option linter.unusedSimpArgs false
set_option linter.unusedVariables false
set_option maxHeartbeats 4000000
set_option maxRecDepth 100000
open Go.RowKit
theorem drop_two {ks : List (List UInt8)} {j : Nat} {a b : List UInt8} (ha : ks[j]? = some a) (hb : ks[j + 1]? = some b) : ks.drop j = a :: b :: ks.drop (j + 2) := by
 obtain ⟨h1, rfl⟩ := List.getElem?_eq_some_iff.1 ha
 obtain ⟨h2, rfl⟩ := List.getElem?_eq_some_iff.1 hb
 rw [List.drop_eq_getElem_cons h1, List.drop_eq_getElem_cons h2]
theorem chk_few {ks : List (List UInt8)} {j : Nat} (h : ks.length ≤ j + 1) : chkK (ks.drop j) = 0 := by
 have hl : (ks.drop j).length ≤ 1 := by rw [List.length_drop]; omega
 match ks.drop j, hl with
 | [], _ => rfl
 | [a], _ => rfl
theorem check2_c (A : Option Addr) (c : Nat) (ks : List (List UInt8)) (w : World) (hA : KS w A ks) (hn : ks.length ≤ 100000) :
  Calls Tryz.prog 39 #[.slice A ks.length c] w fun e w' => e = .returned (.int .i64 (chkK ks)) ∧ Below w.heap.size w w' := by
 have HA := Lib.hid hA
 obtain ⟨N, hN⟩ : ∃ N, N = ks.length := ⟨_, rfl⟩
 obtain ⟨R, hR⟩ : ∃ R, R = chkK ks := ⟨_, rfl⟩
 have HN := Lib.hid hN
 have HR0 : Hid (chkK (ks.drop 0) = R) := by rw [hR]; rfl
 rw [← hN, ← hR]
 have hn9 : N ≤ 100000 := by omega
 clear hA hn hN hR
 go_enter Tryz.func39, Tryz.ntmps39
 go_wp2_with fail
 go_loopg [3] N (fun gg i wr => ∃ j : Nat, i = .int .i64 ((j : Int) + 1) ∧ j ≤ N ∧ N - j = gg ∧ Hid (chkK (ks.drop j) = R) ∧ Below w.heap.size w wr)
 case atStart => exact ⟨0, rfl, by omega, rfl, HR0.out, Below.refl _ _⟩
 case round =>
  obtain ⟨j, rfl, hj, rfl, HRR, hB⟩ := hrel
  have HB := Lib.hid hB
  clear hB
  by_cases hlt : j + 1 < N
  ·have hd : decide ((j : Int) + 1 < (N : Int)) = true := decide_eq_true (by omega)
   obtain ⟨a, ha⟩ : ∃ a, ks[j]? = some a := ⟨_, List.getElem?_eq_getElem (by have := HN.out; omega)⟩
   obtain ⟨b, hb⟩ : ∃ b, ks[j + 1]? = some b := ⟨_, List.getElem?_eq_getElem (by have := HN.out; omega)⟩
   obtain ⟨hka, g, o, hA1, hra⟩ := HA.out j a ha
   obtain ⟨hkb, g2, o2, hA2, hrb⟩ := HA.out (j + 1) b hb
   rw [hA1] at hA2
   cases hA2
   subst hA1
   have HRA := Lib.hid (range_below hra HB.out)
   have HRB := Lib.hid (range_below hrb HB.out)
   have HKA := Lib.hid hka
   have HKB := Lib.hid hkb
   have HDT : Hid (ks.drop j = a :: b :: ks.drop (j + 2)) := drop_two ha hb
   have HD1 : Hid (ks.drop (j + 1) = b :: ks.drop (j + 2)) := by
    show _ = _
    have := HDT.out
    rw [← List.drop_drop, this]
    rfl
   have l1 : ∀ q : Later wr, ldA 39 q.w (.pointer (some ⟨g, o + j * 32, none⟩)) = .ok (.value (.agg (bA a))) q.w := fun q => range_keyS (range_below HRA.out q.h) HKA.out
   have l2 : ∀ q : Later wr, ldA 39 q.w (.pointer (some ⟨g, o + (j + 1) * 32, none⟩)) = .ok (.value (.agg (bA b))) q.w := fun q => range_keyS (range_below HRB.out q.h) HKB.out
   have p0 : (0 : Int) ≤ (j : Int) := by omega
   have p1 : (j : Int) < (N : Int) := by omega
   have p2 : (0 : Int) ≤ (j : Int) + 1 := by omega
   have p3 : (j : Int) + 1 < (N : Int) := by omega
   clear ha hb hra hrb hka hkb
   go_wp2_with fail
   refine wp_region_later (by kernel_rfl) (by kernel_rfl) ?_
   repeat (go_big_quiet_step ((go_at_call 66; exact Later.call (cmpK_c _ _ HKA.out HKB.out _))))
   refine wpQuiet_nil ?_
   rintro _ ⟨x, rfl⟩
   have HB2 := Lib.hid (HB.out.trans (x.h.mono HB.out.size))
   clear l1 l2
   have HCH : Hid (R = if cmpK a b = 0 then 9 else if 0 < cmpK a b then 8 else chkK (ks.drop (j + 1))) := by
    show R = _
    rw [← HRR.out, HDT.out, HD1.out]
    rfl
   rcases cmpK_range a b with hc | hc | hc
   ·rw [hc] at HCH ⊢
    have HF : Hid (chkK (ks.drop (j + 1)) = R) := by show _ = _; rw [HCH.out]; rfl
    clear HCH hc
    go_wp2_with fail
    go_roundg (N - (j + 1))
    case measure => omega
    case rel => exact ⟨j + 1, by go_num, by omega, rfl, HF.out, HB2.out⟩
   ·rw [hc] at HCH ⊢
    have HF : Hid (R = 9) := by show _ = _; rw [HCH.out]; rfl
    clear HCH hc
    go_wp2_with fail
    go_ret
    exact ⟨by rw [HF.out]; rfl, HB2.out⟩
   ·rw [hc] at HCH ⊢
    have HF : Hid (R = 8) := by show _ = _; rw [HCH.out]; rfl
    clear HCH hc
    go_wp2_with fail
    go_ret
    exact ⟨by rw [HF.out]; rfl, HB2.out⟩
  ·have hd : decide ((j : Int) + 1 < (N : Int)) = false := decide_eq_false (by omega)
   have HF : Hid (R = 0) := by show _ = _; rw [← HRR.out]; exact chk_few (by have := HN.out; omega)
   go_wp2_with fail
   go_ret
   exact ⟨by rw [HF.out]; rfl, HB.out⟩
end Go.Proofs.YtmfbhohjpkmllaaGreatDoor
