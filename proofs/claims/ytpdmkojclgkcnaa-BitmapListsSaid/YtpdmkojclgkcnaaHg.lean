/- The reference of layer 14: Same, List, Bytes. -/
import Derived.Test.YtpdmkojclgkcnaaHf
namespace Go.Proofs.Ytpdmkojclgkcnaa.Bt
open Go.RowKit

set_option maxHeartbeats 1000000 in
theorem zsame_c (A B : Option Addr) (c d : Nat) (l m : List Int) (w : World) (hA : ZA w A l) (hB : ZA w B m) (hl : l.length ≤ 4611686018427387904) (hm : m.length ≤ 4611686018427387904) :
    Calls Try.prog 17 #[.slice A l.length c, .slice B m.length d] w fun e w' => e = .returned (.bool (decide (l = m))) ∧ Below w.heap.size w w' := by
  by_cases hlen : l.length = m.length
  · go_enter Try.func17, Try.ntmps17
    go_wp2
    go_loopw [5] (fun i wr => ∃ k n : Nat, i = .int .i64 k ∧ k ≤ l.length ∧ Hid (l.take k = m.take k) ∧ wr = w.drewN n) (fun i _ => l.length - (intOf i).toNat)
    case atStart => exact ⟨0, 0, rfl, by omega, rfl, rfl⟩
    case round =>
      obtain ⟨k, n, rfl, hk, HK, rfl⟩ := hrel
      by_cases hlt : k < l.length
      · obtain ⟨x, hx⟩ := get_zome hlt
        obtain ⟨y, hy⟩ := get_zome (show k < m.length by omega)
        obtain ⟨b1, o1, rfl, h1⟩ := hA k x hx
        obtain ⟨b2, o2, rfl, h2⟩ := hB k y hy
        have HX := Lib.hid hx
        have HY := Lib.hid hy
        clear hx hy hA hB
        by_cases hxy : x = y
        · subst hxy
          have hd : (x != x) = false := by simp
          go_wp2_with fail
          go_quiet (fail)
          go_wp2
          go_roundw
          case rel =>
            refine ⟨k + 1, _, by go_num, by omega, ?_, rfl⟩
            show l.take (k + 1) = m.take (k + 1)
            rw [List.take_add_one, List.take_add_one, HK.out, HX.out, HY.out]
          case measure => simp [intOf]; omega
        · have hd : (x != y) = true := by simpa using hxy
          have hne : decide (l = m) = false := decide_eq_false fun h => by
            subst h
            have := HX.out.symm.trans HY.out
            exact hxy (by simpa using this)
          have HN := Lib.hid hne
          clear hne
          go_wp2_with fail
          go_quiet (fail)
          go_wp2
          go_ret
          exact ⟨ret_boolb HN.out.symm, below_drewN (below_drewN (Below.refl _ _) _) _⟩
      · have he : decide (l = m) = true := decide_eq_true (by
          have := HK.out
          rwa [List.take_of_length_le (by omega), List.take_of_length_le (by omega)] at this)
        have HN := Lib.hid he
        clear he
        go_wp2
        go_ret
        exact ⟨ret_boolb HN.out.symm, below_drewN (Below.refl _ _) _⟩
  · have hd : (((l.length : Nat) : Int) != (m.length : Int)) = true := by simp; omega
    have hne : decide (l = m) = false := decide_eq_false fun h => hlen (by rw [h])
    have HN := Lib.hid hne
    clear hne
    go_enter Try.func17, Try.ntmps17
    go_wp2
    go_ret
    exact ⟨ret_boolb HN.out.symm, Below.refl _ _⟩

theorem refZ_len (l : List Int) : ∀ n, (refZ l n).length ≤ n
  | 0 => Nat.le_refl _
  | n + 1 => by
    have := refZ_len l n
    unfold refZ
    split
    · simp; omega
    · omega
theorem refZ_yes {l : List Int} {n : Nat} (h : (n : Int) ∈ l) : refZ l (n + 1) = refZ l n ++ [(n : Int)] := by show (if _ then _ else _) = _; rw [if_pos h]
theorem refZ_no {l : List Int} {n : Nat} (h : ¬ (n : Int) ∈ l) : refZ l (n + 1) = refZ l n := by show (if _ then _ else _) = _; rw [if_neg h]
/-- Whether a number is among the first n. -/
def amid (l : List Int) (i : Int) (n : Nat) : Bool := decide (i ∈ l.take n)
theorem amid_eq {l : List Int} {n : Nat} {x : Int} (hx : l[n]? = some x) : amid l x (n + 1) = true := by
  unfold amid; rw [take_snoc hx]; simp
theorem amid_ne {l : List Int} {n : Nat} {x i : Int} (hx : l[n]? = some x) (h : x ≠ i) : amid l i (n + 1) = amid l i n := by
  unfold amid; rw [take_snoc hx]
  have : i ≠ x := fun e => h e.symm
  simp [this]
set_option maxHeartbeats 1000000 in
set_option maxRecDepth 100000 in
theorem rlist_c (A : Option Addr) (c : Nat) (l : List Int) (w : World) (hA : ZA w A l) (hl : l.length ≤ 4611686018427387904) :
    Calls Try.prog 20 #[.slice A l.length c] w fun e w' => ∃ v, e = .returned v ∧ OwnZ w' w.heap.size v (refZ l 256) ∧ Below w.heap.size w w' := by
  have HZ := Lib.hid hA
  clear hA
  go_enter Try.func20, Try.ntmps20
  go_wp2
  go_loopg [3, 4] 256 (fun g v i wr => ∃ m : Nat, i = .int .i64 m ∧ m ≤ 256 ∧ 256 - m ≤ g ∧ OwnZ wr w.heap.size v (refZ l m) ∧ Below w.heap.size w wr)
  case atStart => exact ⟨0, rfl, by omega, by omega, OwnZ.nil _ _, Below.refl _ _⟩
  case round =>
    obtain ⟨m, rfl, hm, hg, hO, hB⟩ := hrel
    have HO := Lib.hid hO
    have HB := Lib.hid hB
    obtain ⟨wo, rfl⟩ : ∃ wo : World, wo = wr := ⟨_, rfl⟩
    by_cases hlt : m < 256
    · have hd : decide ((m : Int) < 256) = true := by simp; omega
      have hlen := refZ_len l m
      clear hO hB
      go_wp2
      go_loopg [5, 6] l.length (fun g2 f j wr => ∃ n : Nat, j = .int .i64 n ∧ n ≤ l.length ∧ l.length - n ≤ g2 ∧ f = .bool (amid l m n) ∧ wr = wo)
      case atStart => exact ⟨0, rfl, by omega, by omega, by simp [amid], rfl⟩
      case round =>
        obtain ⟨n, rfl, hn, hg2, rfl, rfl⟩ := hrel
        by_cases hlt2 : n < l.length
        · have hd2 : decide ((n : Int) < l.length) = true := by simp; omega
          obtain ⟨x, hx⟩ := get_zome hlt2
          obtain ⟨b1, o1, rfl, h1⟩ := (HZ.out.below HB.out) n x hx
          by_cases hxm : x = m
          · have hf : (x == (m : Int)) = true := by simpa using hxm
            have HS := Lib.hid (amid_eq hx)
            have HM := Lib.hid hxm
            clear hx hxm
            go_wp2
            go_roundg (l.length - (n + 1))
            case measure => omega
            case rel => exact ⟨n + 1, by go_num, by omega, by omega, by rw [← HM.out, HS.out], rfl⟩
          · have hf : (x == (m : Int)) = false := by simpa using hxm
            have HS := Lib.hid (amid_ne hx hxm)
            clear hx hxm
            go_wp2
            go_roundg (l.length - (n + 1))
            case measure => omega
            case rel => exact ⟨n + 1, by go_num, by omega, by omega, by rw [HS.out], rfl⟩
        · have hd2 : decide ((n : Int) < l.length) = false := by simp; omega
          obtain rfl : n = l.length := by omega
          clear hlt2 hn hg2
          by_cases hmem : (m : Int) ∈ l
          · have hf : amid l m l.length = true := by unfold amid; rw [List.take_length]; simpa using hmem
            have HS := Lib.hid (refZ_yes hmem)
            rw [hf]
            clear hmem hf
            go_wp2_with (at_builtin; refine wpList_pushZ rfl _ _ rfl w.heap.size _ (refZ l m) rfl (HO.out.below (one_below _ _)) wr.heap.size (m : Int) rfl (cell_oneZ _ _ _) (by omega) (by have := HB.out.size; simp; omega) ?_)
            intro v' w2 hO2 hB2
            have HO2 := Lib.hid hO2
            have HB2 := Lib.hid ((HB.out.alloc HB.out.size _).trans hB2)
            clear hO2 hB2
            go_wp2
            go_roundg (256 - (m + 1))
            case measure => omega
            case rel => exact ⟨m + 1, by go_num, by omega, by omega, by rw [HS.out]; exact HO2.out, HB2.out⟩
          · have hf : amid l m l.length = false := by unfold amid; rw [List.take_length]; simpa using hmem
            have HS := Lib.hid (refZ_no hmem)
            rw [hf]
            clear hmem hf
            go_wp2
            go_roundg (256 - (m + 1))
            case measure => omega
            case rel => exact ⟨m + 1, by go_num, by omega, by omega, by rw [HS.out]; exact HO.out, HB.out⟩
    · have hd : decide ((m : Int) < 256) = false := by simp; omega
      obtain rfl : m = 256 := by omega
      clear hO hB
      go_wp2
      go_ret
      exact ⟨_, rfl, HO.out, HB.out⟩
theorem OwnZ.za {w : World} {B n c : Nat} {A : Option Addr} {l : List Int} (h : OwnZ w B (.slice A n c) l) : ZA w A l := by
  obtain ⟨A', c', e, hz⟩ := h.is
  cases e
  exact hz
theorem OwnZ.other {w : World} {B g j : Nat} {v x : Value} {l : List Int} (h : OwnZ w B v l) (hg : g < B) : OwnZ (w.setCell ⟨g, j, none⟩ x) B v l := by
  obtain ⟨h0, h | ⟨g', cap, cur, rfl, hg', hh, hr⟩⟩ := h
  · exact ⟨h0, .inl h⟩
  · exact ⟨h0, .inr ⟨g', cap, cur, rfl, hg', by rw [heap_setCell_other _ _ _ _ (show g' ≠ g by omega)]; exact hh, hr⟩⟩
theorem below_cell {B g j : Nat} {a w : World} {x : Value} (h : Below B a w) (hg : B ≤ g) : Below B a (w.setCell ⟨g, j, none⟩ x) :=
  ⟨h.os, h.tape, h.output, by simpa [World.setCell] using h.size, fun i hi => by rw [heap_setCell_other _ _ _ _ (show i ≠ g by omega)]; exact h.block i hi⟩
set_option maxRecDepth 100000 in
set_option maxHeartbeats 2000000 in
theorem rbytes_c (A : Option Addr) (c : Nat) (l : List Int) (w : World) (hA : ZA w A l) (hl : l.length ≤ 4611686018427387904) :
    Calls Try.prog 11 #[.slice A l.length c] w fun e w' => e = .returned (.agg (kc (ofK l))) ∧ Below w.heap.size w w' := by
  have HA := Lib.hid hA
  have HL := Lib.hid hl
  clear hA hl
  go_enter Try.func11, Try.ntmps11
  go_wp2_with fail
  refine (rlist_c A c l _ (HA.out.below (two_below _ _ _)) HL.out).mono ?_
  rintro e w1 ⟨v, rfl, hO, hb⟩
  rw [refZ_eq l 256 (Nat.le_refl _)] at hO
  have HR : Hid (∀ x, x ∈ setZ (ofK l) 256 → 0 ≤ x ∧ x < (256 : Nat)) := fun _ h => setZ_range (ofK l) 256 h
  have HST : Hid (∀ m n : Nat, n < 256 → (setZ (ofK l) 256)[m]? = some (n : Int) → bit (ofK ((setZ (ofK l) 256).take m)) n = 0 ∧ upd (ofK ((setZ (ofK l) 256).take m)) (n / 8) (ofK ((setZ (ofK l) 256).take m) (n / 8) + msk n) = ofK ((setZ (ofK l) 256).take (m + 1)) ∧ ofK ((setZ (ofK l) 256).take m) (n / 8) + msk n < 256) := fun m n hn hx => bytes_step (ofK l) hn hx
  have HEND := Lib.hid (kc_congr (ofK_setZ (ofK_byt l)))
  have hLl := setZ_len (ofK l) 256
  obtain ⟨L, hL⟩ : ∃ L, L = setZ (ofK l) 256 := ⟨_, rfl⟩
  have hO' := hO
  rw [← hL] at hO hO' HR HST HEND hLl
  obtain ⟨A1, c1, rfl, _⟩ := hO'.is
  have HB1 := Lib.hid ((two_below w (.cells (kc kz) 24) (.cells (kc kz) 24)).trans (hb.mono (by simp; omega)))
  have HO := Lib.hid (hO.mono (B' := w.heap.size + 2) (by simp))
  have HC := Lib.hid ((ArAt.two w kz (.cells (kc kz) 24)).below hb (by simp; omega))
  have HD := Lib.hid ((ArAt.two' w kz (.cells (kc kz) 24)).below hb (by simp))
  clear hL hb hO hO'
  go_wp2
  go_loopg [5] L.length (fun g j wr => ∃ m : Nat, j = .int .i64 m ∧ m ≤ L.length ∧ L.length - m ≤ g ∧ OwnZ wr (w.heap.size + 2) (.slice A1 L.length c1) L ∧ ArAt wr w.heap.size kz ∧ ArAt wr (w.heap.size + 1) (ofK (L.take m)) ∧ Below w.heap.size w wr)
  case atStart => exact ⟨0, rfl, by omega, by omega, HO.out, HC.out, HD.out, HB1.out⟩
  case round =>
    obtain ⟨m, rfl, hm, hg, hO, hC, hD, hB⟩ := hrel
    have HO2 := Lib.hid hO
    have HC2 := Lib.hid hC
    have HD2 := Lib.hid hD
    have HB2 := Lib.hid hB
    obtain ⟨wo, rfl⟩ : ∃ wo : World, wo = wr := ⟨_, rfl⟩
    by_cases hlt : m < L.length
    · have hd : decide ((m : Int) < L.length) = true := by simp; omega
      obtain ⟨x, hx⟩ := get_zome hlt
      obtain ⟨b1, o1, rfl, h1⟩ := hO.za m x hx
      obtain ⟨n, rfl⟩ : ∃ n : Nat, x = n := Int.eq_ofNat_of_zero_le (HR.out _ (List.mem_of_getElem? hx)).1
      have hn : n < 256 := by have := (HR.out _ (List.mem_of_getElem? hx)).2; omega
      obtain ⟨_, hs1, hs2⟩ := HST.out m n hn hx
      have HS := Lib.hid hs1
      have HC1 := Lib.hid (hD.cell (j := n / 8) (by omega))
      have HF := Lib.hid (hD.free (n / 8))
      obtain ⟨y, hy⟩ : ∃ y, y = ofK (L.take m) (n / 8) := ⟨_, rfl⟩
      rw [← hy] at hs2 HS HC1
      have HM := Lib.hid (show msk n = 2 ^ (7 - n % 8) from rfl)
      obtain ⟨z, hz⟩ : ∃ z, z = msk n := ⟨_, rfl⟩
      rw [← hz] at hs2 HS HM
      have hcell := HC1.out
      have hfree := HF.out
      clear hx hs1 hO hC hD hB hy hz
      go_wp2
      go_loopg [6, 7] 8 (fun g2 v j wr => ∃ q : Nat, n % 8 ≤ q ∧ q ≤ 7 ∧ 8 - q ≤ g2 ∧ j = .int .i64 q ∧ v = .int .i64 (2 ^ (q - n % 8) : Nat) ∧ wr = wo)
      case atStart => exact ⟨n % 8, by omega, by omega, by omega, by simp, by simp, rfl⟩
      case round =>
        obtain ⟨q, h2, h3, hg2, rfl, rfl, rfl⟩ := hrel
        have hp : (2 ^ (q - n % 8) : Nat) ≤ 128 := by
          have : 2 ^ (q - n % 8) ≤ 2 ^ 7 := Nat.pow_le_pow_right (by decide) (by omega)
          simpa using this
        obtain ⟨v, hv⟩ : ∃ v : Nat, v = 2 ^ (q - n % 8) := ⟨_, rfl⟩
        rw [← hv] at hp ⊢
        have HV := Lib.hid hv
        clear hv
        by_cases hlt2 : q < 7
        · go_wp2
          go_roundg (8 - (q + 1))
          case measure => omega
          case rel =>
            refine ⟨q + 1, by omega, by omega, by omega, by go_num, ?_, rfl⟩
            have : (2 ^ (q + 1 - n % 8) : Nat) = v * 2 := by rw [HV.out, show q + 1 - n % 8 = (q - n % 8) + 1 by omega, Nat.pow_succ]
            rw [this]; go_num
        · have hvz : v = z := by rw [HV.out, HM.out, show q = 7 by omega]
          have HVZ := Lib.hid hvz
          subst hvz
          clear HM hg2 h2
          go_wp2
          have HO3 := Lib.hid (HO2.out.other (j := n / 8) (x := .int .u8 ((y : Int) + (v : Int))) (show w.heap.size + 1 < w.heap.size + 2 by omega))
          have HC3 := Lib.hid (HC2.out.set_other (c := w.heap.size + 1) (by omega) (n / 8) (.int .u8 ((y : Int) + (v : Int))))
          have HD3 := Lib.hid (HD2.out.set (n / 8) (y + v))
          have HB3 := Lib.hid (below_cell (j := n / 8) (x := .int .u8 ((y : Int) + (v : Int))) HB2.out (show w.heap.size ≤ w.heap.size + 1 by omega))
          go_roundg (L.length - (m + 1))
          case measure => omega
          case rel =>
            refine ⟨m + 1, by go_num, by omega, by omega, HO3.out, HC3.out, ?_, HB3.out⟩
            have := HD3.out
            rw [HS.out] at this
            simpa using this
    · have hd : decide ((m : Int) < L.length) = false := by simp; omega
      obtain rfl : m = L.length := by omega
      rw [List.take_length] at hD HD2
      have hld := hD.ld
      have hst := hC.st (ofK L)
      have HC1 := Lib.hid (hC.row (ofK L))
      clear hO hC hD hB hlt hg hm
      go_wp2
      refine bodyPost_ret (v := .agg (kc (ofK L))) ?_ rfl ⟨by rw [HEND.out], below_row HB2.out (Nat.le_refl _) _⟩
      exact results_cell_row Try.results11 _ _ w.heap.size 24 _ (0, 0) _ rfl HC1.out Try.underlying24 rfl (by rw [kc_size]; exact infoAr)
end Go.Proofs.Ytpdmkojclgkcnaa.Bt
