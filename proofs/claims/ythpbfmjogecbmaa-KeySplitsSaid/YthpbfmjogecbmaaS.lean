/- The functions of five statements return true. -/
import Derived.Test.YthpbfmjogecbmaaR
namespace Go.Proofs.Ythpbfmjogecbmaa
open Go.RowKit

def Yes (w : World) (e : Ending) (w' : World) : Prop := e = .returned (.bool true) ∧ Below w.heap.size w w'

set_option maxRecDepth 100000 in
set_option maxHeartbeats 1000000 in
theorem of_w (A : Option Addr) (c : Nat) (l : List UInt8) (w : World) (hA : BA w A l) : Calls Try.prog 3 #[.slice A l.length c] w (Yes w) := by
  by_cases h32 : l.length = 32
  · have hd : ((l.length : Int) != 32) = false := by rw [h32]; rfl
    have f1 : keq (kof l 32) (kof l 32) = true := (keq_iff _ _).2 fun _ _ => rfl
    have H32 := Lib.hid h32
    have HA := Lib.hid hA
    clear h32 hA
    go_enter Try.func3, Try.ntmps3
    go_wp2_with fail
    refine (of_yes A c l _ HA.out H32.out).mono ?_
    rintro e w1 ⟨rfl, hb⟩
    have HB := Lib.hid hb
    clear hb
    go_wp2_with fail
    have la := fun x : Later (w1.alloc (.cells (kc (kof l 32)) 24)) => x.ld_one
    have HAL : Hid (∀ x : Later (w1.alloc (.cells (kc (kof l 32)) 24)), BA x.w A l) := fun x => ((HA.out.below HB.out).below (one_below _ _)).below x.h
    refine wp_region_later (by kernel_rfl) (by kernel_rfl) ?_
    repeat (go_big_quiet_step ((first | (go_at_call 10; exact Later.call (alive_c _)) | (go_at_call 11; exact Later.call (rof_c A c l _ (HAL.out _) H32.out)))))
    refine wpQuiet_nil ?_
    rintro _ ⟨x, rfl⟩
    clear la f1 HAL
    go_wp2
    go_ret
    exact ⟨rfl, HB.out.trans (x.one.mono HB.out.size)⟩
  · have hd : ((l.length : Int) != 32) = true := by simp; omega
    have f1 : keq kz kz = true := (keq_iff _ _).2 fun _ _ => rfl
    go_enter Try.func3, Try.ntmps3
    go_wp2_with fail
    refine (of_no A l.length c _ h32).mono ?_
    rintro e w1 ⟨rfl, hb⟩
    have HB := Lib.hid hb
    clear hb hA
    go_wp2_with fail
    refine (alive_c _).mono ?_
    rintro e w2 ⟨rfl, hb2⟩
    have lk := ((KeyAt.one w1 kz).below hb2 (by simp)).ld
    have HB2 : Hid (Below w.heap.size w w2) := HB.out.trans ((one_below _ _).trans (hb2.mono (by simp)) |>.mono HB.out.size)
    clear hb2
    go_wp2
    go_ret
    exact ⟨rfl, HB2.out⟩

/-! ### The text's digits are worth the bytes -/
theorem hexd_isDg (y : Nat) (h : y < 16) : isDg (hexd y) = true ∧ dg (hexd y) = y := by
  have : ∀ y < 16, isDg (hexd y) = true ∧ dg (hexd y) = y := by decide +kernel
  exact this y h
theorem hexs_at (l : List UInt8) : ∀ j, j < l.length → ∃ x, l[j]? = some x ∧ (hexs l)[2 * j]? = some (UInt8.ofNat (hexd (x.toNat / 16))) ∧ (hexs l)[2 * j + 1]? = some (UInt8.ofNat (hexd (x.toNat % 16))) := by
  induction l with
  | nil => intro j hj; simp at hj
  | cons a l ih =>
    intro j hj
    cases j with
    | zero => exact ⟨a, rfl, rfl, rfl⟩
    | succ j =>
      obtain ⟨x, h1, h2, h3⟩ := ih j (by simpa using hj)
      refine ⟨x, by simpa using h1, ?_, ?_⟩
      · show (hex2 a ++ hexs l)[2 * (j + 1)]? = _
        rw [List.getElem?_append_right (by simp [hex2]; omega), ← h2]
        simp [hex2]
        rw [show 2 * (j + 1) - 2 = 2 * j by omega]
      · show (hex2 a ++ hexs l)[2 * (j + 1) + 1]? = _
        rw [List.getElem?_append_right (by simp [hex2]; omega), ← h3]
        simp [hex2]
        rw [show 2 * (j + 1) - 1 = 2 * j + 1 by omega]
theorem ofNat_hexd (y : Nat) (h : y < 16) : (UInt8.ofNat (hexd y)).toNat = hexd y := by
  have := hexd_lt y h
  simp only [UInt8.toNat_ofNat']
  omega
theorem fine_hexs (l : List UInt8) : fine (hexs l) = true := by
  refine fine_yes (by rw [hexs_len]; omega) fun j hj => ?_
  rw [hexs_len] at hj
  obtain ⟨x, h1, h2, h3⟩ := hexs_at l (j / 2) (by omega)
  have x256 : x.toNat < 256 := x.toNat_lt
  rcases Nat.mod_two_eq_zero_or_one j with e | e
  · rw [show 2 * (j / 2) = j by omega] at h2
    rw [List.getD, h2, Option.getD_some, ofNat_hexd _ (by omega)]
    exact (hexd_isDg _ (by omega)).1
  · rw [show 2 * (j / 2) + 1 = j by omega] at h3
    rw [List.getD, h3, Option.getD_some, ofNat_hexd _ (by omega)]
    exact (hexd_isDg _ (by omega)).1
theorem parsed_hexs (l : List UInt8) : parsed (hexs l) = l := by
  apply List.ext_getElem?
  intro j
  unfold parsed
  rw [List.getElem?_map]
  rcases Nat.lt_or_ge j l.length with hj | hj
  · obtain ⟨x, h1, h2, h3⟩ := hexs_at l j hj
    have x256 : x.toNat < 256 := x.toNat_lt
    rw [List.getElem?_range (by rw [hexs_len]; omega), Option.map_some, h1]
    unfold dgL
    rw [List.getD, h2, List.getD, h3, Option.getD_some, Option.getD_some, ofNat_hexd _ (by omega), ofNat_hexd _ (by omega), (hexd_isDg _ (by omega)).2, (hexd_isDg _ (by omega)).2]
    rw [show 16 * (x.toNat / 16) + x.toNat % 16 = x.toNat by omega, UInt8.ofNat_toNat]
  · rw [List.getElem?_eq_none (by simp [hexs_len]; omega), List.getElem?_eq_none hj]
    rfl

set_option maxRecDepth 100000 in
set_option maxHeartbeats 1000000 in
theorem texts_w (A : Option Addr) (c : Nat) (l : List UInt8) (w : World) (hA : BA w A l) (hl : l.length ≤ 9223372036854775807) : Calls Try.prog 4 #[.slice A l.length c] w (Yes w) := by
  by_cases hn : 3000 < l.length
  · have hd : decide (3000 < (l.length : Int)) = true := by simp; omega
    go_enter Try.func4, Try.ntmps4
    go_wp2_with (go_at_call 10; refine (alive_c _).mono ?_; rintro e w' ⟨rfl, hb⟩)
    go_ret
    exact ⟨rfl, hb⟩
  · have hd : decide (3000 < (l.length : Int)) = false := by simp; omega
    have HA := Lib.hid hA
    clear hA
    obtain ⟨S, hS⟩ : ∃ S : ByteArray, S = ⟨(hexs l).toArray⟩ := ⟨_, rfl⟩
    have hs : S.data.toList = hexs l := by rw [hS]
    have hsz : S.size ≤ 2000000000000 := by
      show S.data.size ≤ _
      rw [← Array.length_toList, hs, hexs_len]
      omega
    go_enter Try.func4, Try.ntmps4
    go_wp2_with fail
    refine (hex_c A c l _ HA.out (by omega)).mono ?_
    rintro e w1 ⟨rfl, hb⟩
    rw [← hS]
    have HS := Lib.hid hS
    have HB := Lib.hid hb
    have Hs := Lib.hid hs
    clear hb hS hs
    go_wp2_with fail
    refine (parse_c S _ hsz).mono ?_
    intro e w2 hp
    unfold ParsePost at hp
    rw [Hs.out, fine_hexs, if_pos rfl, parsed_hexs] at hp
    obtain ⟨Ap, cp, rfl, hba, hb2⟩ := hp
    have HB2 : Hid (Below w.heap.size w w2) := HB.out.trans (hb2.mono HB.out.size)
    have HBA := Lib.hid hba
    clear hb2 hba
    go_wp2_with fail
    refine (alive_c _).mono ?_
    rintro e w3 ⟨rfl, hb3⟩
    have HB3 : Hid (Below w.heap.size w w3) := HB2.out.trans (hb3.mono HB2.out.size)
    have HBA3 := Lib.hid (HBA.out.below hb3)
    clear hb3
    go_wp2_with fail
    refine (rhex_c A c l _ (HA.out.below HB3.out) (by omega)).mono ?_
    rintro e w4 ⟨rfl, hb4⟩
    rw [← HS.out]
    have HB4 : Hid (Below w.heap.size w w4) := HB3.out.trans (hb4.mono HB3.out.size)
    have HBA4 := Lib.hid (HBA3.out.below hb4)
    have hee : (S.toList == S.toList) = true := by simp
    clear hb4
    go_wp2_with fail
    refine (same_c A Ap c cp l l _ (HA.out.below HB4.out) HBA4.out (by omega) (by omega)).mono ?_
    rintro e w5 ⟨rfl, hb5⟩
    rw [decide_eq_true rfl]
    have HB5 : Hid (Below w.heap.size w w5) := HB4.out.trans (hb5.mono HB4.out.size)
    clear hb5 hee
    go_wp2
    go_ret
    exact ⟨rfl, HB5.out⟩

set_option maxRecDepth 100000 in
set_option maxHeartbeats 1000000 in
theorem parses_w (s : ByteArray) (w : World) : Calls Try.prog 5 #[.string s] w (Yes w) := by
  by_cases hn : 6000 < s.size
  · have hd : decide (6000 < (s.size : Int)) = true := by simp; omega
    go_enter Try.func5, Try.ntmps5
    go_wp2_with (go_at_call 10; refine (alive_c _).mono ?_; rintro e w' ⟨rfl, hb⟩)
    go_ret
    exact ⟨rfl, hb⟩
  · have hd : decide (6000 < (s.size : Int)) = false := by simp; omega
    cases hf : fine s.data.toList with
    | true =>
      have HF := Lib.hid hf
      clear hf
      go_enter Try.func5, Try.ntmps5
      go_wp2_with fail
      refine (parse_c s _ (by omega)).mono ?_
      intro e w1 hp
      unfold ParsePost at hp
      rw [HF.out, if_pos rfl] at hp
      obtain ⟨Ap, cp, rfl, hba, hb⟩ := hp
      have HB := Lib.hid hb
      have HBA := Lib.hid hba
      clear hb hba
      go_wp2_with fail
      refine (rparse_c s _ (by omega)).mono ?_
      intro e w2 hp
      unfold RParsePost at hp
      rw [HF.out, if_pos rfl] at hp
      obtain ⟨Ar, cr, rfl, hba2, hb2⟩ := hp
      have HB2 : Hid (Below w.heap.size w w2) := HB.out.trans (hb2.mono HB.out.size)
      have HBA2 := Lib.hid (HBA.out.below hb2)
      have HBR := Lib.hid hba2
      clear hb2 hba2
      go_wp2_with fail
      refine (alive_c _).mono ?_
      rintro e w3 ⟨rfl, hb3⟩
      have HB3 : Hid (Below w.heap.size w w3) := HB2.out.trans (hb3.mono HB2.out.size)
      have HBA3 := Lib.hid (HBA2.out.below hb3)
      have HBR3 := Lib.hid (HBR.out.below hb3)
      clear hb3
      have hpl : (parsed s.data.toList).length ≤ 4611686018427387904 := by
        rw [parsed_len]
        have : s.data.toList.length = s.size := by rw [Array.length_toList]; rfl
        omega
      go_wp2_with fail
      refine (same_c Ap Ar cp cr _ _ _ HBA3.out HBR3.out hpl hpl).mono ?_
      rintro e w5 ⟨rfl, hb5⟩
      rw [decide_eq_true rfl]
      have HB5 : Hid (Below w.heap.size w w5) := HB3.out.trans (hb5.mono HB3.out.size)
      clear hb5 hpl
      go_wp2
      go_ret
      exact ⟨rfl, HB5.out⟩
    | false =>
      have HF := Lib.hid hf
      clear hf
      go_enter Try.func5, Try.ntmps5
      go_wp2_with fail
      refine (parse_c s _ (by omega)).mono ?_
      intro e w1 hp
      unfold ParsePost at hp
      rw [HF.out, if_neg (by simp)] at hp
      obtain ⟨rfl, hb⟩ := hp
      have HB := Lib.hid hb
      clear hb
      go_wp2_with fail
      refine (rparse_c s _ (by omega)).mono ?_
      intro e w2 hp
      unfold RParsePost at hp
      rw [HF.out, if_neg (by simp)] at hp
      obtain ⟨rfl, hb2⟩ := hp
      have HB2 : Hid (Below w.heap.size w w2) := HB.out.trans (hb2.mono HB.out.size)
      clear hb2
      go_wp2_with fail
      refine (alive_c _).mono ?_
      rintro e w3 ⟨rfl, hb3⟩
      have HB3 : Hid (Below w.heap.size w w3) := HB2.out.trans (hb3.mono HB2.out.size)
      clear hb3
      go_wp2
      go_ret
      exact ⟨rfl, HB3.out⟩

set_option maxRecDepth 100000 in
set_option maxHeartbeats 1000000 in
theorem checks_w (A : Option Addr) (c : Nat) (l : List K) (w : World) (hA : KA w A l) (hl : l.length ≤ 9223372036854775807) : Calls Try.prog 6 #[.slice A l.length c] w (Yes w) := by
  by_cases hn : 300 < l.length
  · have hd : decide (300 < (l.length : Int)) = true := by simp; omega
    go_enter Try.func6, Try.ntmps6
    go_wp2_with (go_at_call 10; refine (alive_c _).mono ?_; rintro e w' ⟨rfl, hb⟩)
    go_ret
    exact ⟨rfl, hb⟩
  · have hd : decide (300 < (l.length : Int)) = false := by simp; omega
    have HA := Lib.hid hA
    clear hA
    go_enter Try.func6, Try.ntmps6
    go_wp2_with fail
    refine (alive_c _).mono ?_
    rintro e w1 ⟨rfl, hb⟩
    have HB := Lib.hid hb
    clear hb
    go_wp2_with fail
    refine (check_c A c l _ (HA.out.below HB.out) (by omega)).mono ?_
    rintro e w2 ⟨rfl, hb2⟩
    have HB2 : Hid (Below w.heap.size w w2) := HB.out.trans (hb2.mono HB.out.size)
    clear hb2
    go_wp2_with fail
    refine (rcheck_c A c l _ (HA.out.below HB2.out) (by omega)).mono ?_
    rintro e w3 ⟨rfl, hb3⟩
    have HB3 : Hid (Below w.heap.size w w3) := HB2.out.trans (hb3.mono HB2.out.size)
    clear hb3
    go_wp2
    go_ret
    exact ⟨rfl, HB3.out⟩

set_option maxRecDepth 100000 in
set_option maxHeartbeats 1000000 in
theorem sorts_w (A : Option Addr) (c : Nat) (l : List K) (w : World) (hA : KA w A l) (hl : l.length ≤ 9223372036854775807) : Calls Try.prog 7 #[.slice A l.length c] w (Yes w) := by
  by_cases hn : 100 < l.length
  · have hd : decide (100 < (l.length : Int)) = true := by simp; omega
    go_enter Try.func7, Try.ntmps7
    go_wp2_with (go_at_call 10; refine (alive_c _).mono ?_; rintro e w' ⟨rfl, hb⟩)
    go_ret
    exact ⟨rfl, hb⟩
  · have hd : decide (100 < (l.length : Int)) = false := by simp; omega
    have HA := Lib.hid hA
    clear hA
    have hrl := rsort_len l
    have HCK := Lib.hid (chk_asc (rsort_spec l).1)
    go_enter Try.func7, Try.ntmps7
    go_wp2_with fail
    refine (clone_c A c l _ HA.out (by omega)).mono ?_
    rintro e w1 ⟨Am, cm, rfl, hR, _, hb⟩
    have HB := Lib.hid hb
    have HM := Lib.hid hR.ka
    clear hb hR
    go_wp2_with fail
    refine (sort_c Am cm l _ HM.out (by omega)).mono ?_
    rintro e w2 ⟨Ao, co, rfl, hO, hb2⟩
    have HB2 : Hid (Below w.heap.size w w2) := HB.out.trans (hb2.mono HB.out.size)
    have HM2 := Lib.hid (HM.out.below hb2)
    have HO := Lib.hid hO
    clear hb2 hO
    go_wp2_with fail
    refine (alive_c _).mono ?_
    rintro e w3 ⟨rfl, hb3⟩
    have HB3 : Hid (Below w.heap.size w w3) := HB2.out.trans (hb3.mono HB2.out.size)
    have HM3 := Lib.hid (HM2.out.below hb3)
    have HO3 := Lib.hid (HO.out.below hb3)
    clear hb3
    go_wp2_with fail
    refine (rsort_c A c l _ (HA.out.below HB3.out) (by omega)).mono ?_
    rintro e w4 ⟨v, rfl, hv, hb4⟩
    obtain ⟨Ar, cr, rfl, hRr, _⟩ := hv.row
    have HB4 : Hid (Below w.heap.size w w4) := HB3.out.trans (hb4.mono HB3.out.size)
    have HM4 := Lib.hid (HM3.out.below hb4)
    have HO4 := Lib.hid (HO3.out.below hb4)
    have HR4 := Lib.hid hRr.ka
    clear hb4 hv hRr
    go_wp2_with fail
    refine (equal_c Ao Ar co cr _ _ _ HO4.out HR4.out (by omega) (by omega)).mono ?_
    rintro e w5 ⟨rfl, hb5⟩
    rw [decide_eq_true rfl]
    have HB5 : Hid (Below w.heap.size w w5) := HB4.out.trans (hb5.mono HB4.out.size)
    have HM5 := Lib.hid (HM4.out.below hb5)
    have HO5 := Lib.hid (HO4.out.below hb5)
    clear hb5
    go_wp2_with fail
    refine (equal_c A Am c cm _ _ _ (HA.out.below HB5.out) HM5.out (by omega) (by omega)).mono ?_
    rintro e w6 ⟨rfl, hb6⟩
    rw [decide_eq_true rfl]
    have HB6 : Hid (Below w.heap.size w w6) := HB5.out.trans (hb6.mono HB5.out.size)
    have HO6 := Lib.hid (HO5.out.below hb6)
    clear hb6
    go_wp2_with fail
    refine (check_c Ao co _ _ HO6.out (by omega)).mono ?_
    rintro e w7 ⟨rfl, hb7⟩
    rw [HCK.out]
    have HB7 : Hid (Below w.heap.size w w7) := HB6.out.trans (hb7.mono HB6.out.size)
    clear hb7
    go_wp2
    go_ret
    exact ⟨rfl, HB7.out⟩
end Go.Proofs.Ythpbfmjogecbmaa
