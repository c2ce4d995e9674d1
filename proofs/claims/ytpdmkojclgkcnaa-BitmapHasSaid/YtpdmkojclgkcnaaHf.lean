/- The program's sets of depths: List, Len, Last, Of. -/
import Derived.Test.YtpdmkojclgkcnaaHe
namespace Go.Proofs.Ytpdmkojclgkcnaa.Bt
open Go.RowKit

theorem setZ_yes {k : Nat → Nat} {n : Nat} (h : bit k n = 1) : setZ k (n + 1) = setZ k n ++ [(n : Int)] := by show (if _ then _ else _) = _; rw [if_pos h]
theorem setZ_no {k : Nat → Nat} {n : Nat} (h : bit k n = 0) : setZ k (n + 1) = setZ k n := by show (if _ then _ else _) = _; rw [if_neg (by omega)]
theorem lastTo_yes {k : Nat → Nat} {n : Nat} (h : bit k n = 1) : lastTo k (n + 1) = n := by show (if _ then _ else _) = _; rw [if_pos h]
theorem lastTo_no {k : Nat → Nat} {n : Nat} (h : bit k n = 0) : lastTo k (n + 1) = lastTo k n := by show (if _ then _ else _) = _; rw [if_neg (by omega)]
theorem hasK_yes {k : Nat → Nat} {n : Nat} (hn : n < 256) (h : bit k n = 1) : hasK k (n : Int) = true := by rw [hasK_in k n hn, h]; rfl
theorem hasK_no {k : Nat → Nat} {n : Nat} (hn : n < 256) (h : bit k n = 0) : hasK k (n : Int) = false := by rw [hasK_in k n hn, h]; rfl

theorem cell_oneZ (w : World) (x : Int) (t : TypeId) : (w.alloc (.cells #[.int .i64 x] t)).cell? ⟨w.heap.size, 0, none⟩ = some (.int .i64 x) := by
  rw [cell_of_row _ _ _ _ _ _ (heap_alloc_last w _)]; rfl
set_option maxHeartbeats 1000000 in
theorem list_c (k : Nat → Nat) (hk : Byt k) (w : World) :
    Calls Try.prog 18 #[.agg (kc k)] w fun e w' => ∃ v, e = .returned v ∧ OwnZ w' w.heap.size v (setZ k 256) ∧ Below w.heap.size w w' := by
  have HK := Lib.hid hk
  clear hk
  go_enter Try.func18, Try.ntmps18
  go_wp2
  go_loopg [3, 5] 256 (fun g v j wr => ∃ m : Nat, j = .int .i64 m ∧ m ≤ 256 ∧ 256 - m ≤ g ∧ OwnZ wr (w.heap.size + 1) v (setZ k m) ∧ BmAt wr w.heap.size k ∧ Below w.heap.size w wr)
  case atStart => exact ⟨0, rfl, by omega, by omega, OwnZ.nil _ _, BmAt.one _ _, one_below _ _⟩
  case round =>
    obtain ⟨m, rfl, hm, hg, hO, hA, hB⟩ := hrel
    have HO := Lib.hid hO
    have HA := Lib.hid hA
    have HB := Lib.hid hB
    by_cases hlt : m < 256
    · have hd : decide ((m : Int) < 256) = true := by simp; omega
      have hl := hA.ld
      have hlen := setZ_len k m
      rcases bit_01 k m with hb | hb
      · have hf := hasK_no hlt hb
        have HS := Lib.hid (setZ_no hb)
        clear hO hA hB hb
        go_wp2_with fail
        refine (has_c k HK.out (m : Int) _).mono ?_
        rintro e w1 ⟨rfl, hb1⟩
        have HO1 := Lib.hid (HO.out.below hb1)
        have HA1 := Lib.hid (HA.out.below hb1 HA.out.lt)
        have HB1 := Lib.hid (HB.out.trans (hb1.mono HB.out.size))
        clear hb1 hl
        go_wp2
        go_roundg (256 - (m + 1))
        case measure => omega
        case rel => exact ⟨m + 1, by go_num, by omega, by omega, by rw [HS.out]; exact HO1.out, HA1.out, HB1.out⟩
      · have hf := hasK_yes hlt hb
        have HS := Lib.hid (setZ_yes hb)
        clear hO hA hB hb
        go_wp2_with fail
        refine (has_c k HK.out (m : Int) _).mono ?_
        rintro e w1 ⟨rfl, hb1⟩
        have HO1 := Lib.hid (HO.out.below hb1)
        have HA1 := Lib.hid (HA.out.below hb1 HA.out.lt)
        have HB1 := Lib.hid (HB.out.trans (hb1.mono HB.out.size))
        clear hb1 hl
        go_wp2_with (at_builtin; refine wpList_pushZ rfl _ _ rfl (w.heap.size + 1) _ (setZ k m) rfl (HO1.out.below (one_below _ _)) w1.heap.size (m : Int) rfl (cell_oneZ _ _ _) (by omega) (by have := HB1.out.size; have := HA1.out.lt; simp; omega) ?_)
        intro v' w2 hO2 hB2
        have HO2 := Lib.hid hO2
        have HB2 := Lib.hid ((HB1.out.alloc HB1.out.size _).trans (hB2.mono (by omega)))
        have HA2 := Lib.hid ((HA1.out.below (one_below _ _) HA1.out.lt).below hB2 (by omega))
        clear hO2 hB2
        go_wp2
        go_roundg (256 - (m + 1))
        case measure => omega
        case rel => exact ⟨m + 1, by go_num, by omega, by omega, by rw [HS.out]; exact HO2.out, HA2.out, HB2.out⟩
    · have hd : decide ((m : Int) < 256) = false := by simp; omega
      obtain rfl : m = 256 := by omega
      clear hO hA hB
      go_wp2
      go_ret
      exact ⟨_, rfl, HO.out.mono (by omega), HB.out⟩
set_option maxHeartbeats 400000 in
theorem len_c (k : Nat → Nat) (hk : Byt k) (w : World) :
    Calls Try.prog 16 #[.agg (kc k)] w fun e w' => e = .returned (.int .i64 (setZ k 256).length) ∧ Below w.heap.size w w' := by
  go_enter Try.func16, Try.ntmps16
  go_wp2_with fail
  refine (list_c k hk _).mono ?_
  rintro e w1 ⟨v, rfl, hO, hb⟩
  obtain ⟨A, c, rfl, _⟩ := hO.is
  have HB : Hid (Below w.heap.size w w1) := (one_below _ _).trans (hb.mono (by simp))
  clear hb hk hO
  go_wp2
  go_ret
  exact ⟨rfl, HB.out⟩
set_option maxHeartbeats 1000000 in
theorem last_c (k : Nat → Nat) (hk : Byt k) (w : World) :
    Calls Try.prog 19 #[.agg (kc k)] w fun e w' => e = .returned (.int .i64 (lastTo k 256)) ∧ Below w.heap.size w w' := by
  by_cases hz : keq k kz = true
  · rw [lastTo_kz hz]
    clear hk
    go_enter Try.func19, Try.ntmps19
    go_wp2
    go_ret
    exact ⟨rfl, one_below _ _⟩
  · have hz' : keq k kz = false := by simpa using hz
    have HN := Lib.hid (lastTo_some hk hz')
    have HK := Lib.hid hk
    clear hz hk
    go_enter Try.func19, Try.ntmps19
    go_wp2
    go_loopg [3] 256 (fun g j wr => ∃ m : Nat, j = .int .i64 m ∧ m < 256 ∧ m ≤ g ∧ Hid (lastTo k 256 = lastTo k (m + 1)) ∧ BmAt wr w.heap.size k ∧ Below w.heap.size w wr)
    case atStart => exact ⟨255, rfl, by omega, by omega, rfl, BmAt.one _ _, one_below _ _⟩
    case round =>
      obtain ⟨m, rfl, hm, hg, HL, hA, hB⟩ := hrel
      have HA := Lib.hid hA
      have HB := Lib.hid hB
      have hl := hA.ld
      clear hA hB
      rcases bit_01 k m with hb | hb
      · have hf := hasK_no hm hb
        have HS := Lib.hid (lastTo_no hb)
        have hpos : 0 < m := by
          rcases Nat.eq_zero_or_pos m with h | h
          · subst h
            exact absurd (HL.out.trans (lastTo_no hb)) HN.out
          · exact h
        clear hb
        go_wp2_with fail
        refine (has_c k HK.out (m : Int) _).mono ?_
        rintro e w1 ⟨rfl, hb1⟩
        have HA1 := Lib.hid (HA.out.below hb1 HA.out.lt)
        have HB1 := Lib.hid (HB.out.trans (hb1.mono HB.out.size))
        clear hb1 hl
        go_wp2
        go_roundg (m - 1)
        case measure => omega
        case rel => exact ⟨m - 1, by go_num, by omega, by omega, by rw [HL.out, HS.out, show m - 1 + 1 = m by omega]; rfl, HA1.out, HB1.out⟩
      · have hf := hasK_yes hm hb
        have HS := Lib.hid (lastTo_yes hb)
        clear hb
        go_wp2_with fail
        refine (has_c k HK.out (m : Int) _).mono ?_
        rintro e w1 ⟨rfl, hb1⟩
        have HB1 := Lib.hid (HB.out.trans (hb1.mono HB.out.size))
        clear hb1 hl
        go_wp2
        go_ret
        exact ⟨ret_int (by rw [HL.out, HS.out]), HB1.out⟩
set_option maxHeartbeats 1000000 in
theorem fold_c (k : Nat → Nat) (hk : Byt k) (A : Option Addr) (c : Nat) (l : List Int) (w : World) (hA : ZA w A l) (hl : l.length ≤ 4611686018427387904) :
    Calls Try.prog 21 #[.agg (kc k), .func (.func 14) #[] #[], .slice A l.length c] w fun e w' => e = .returned (.agg (kc (ofFrom k l))) ∧ Below w.heap.size w w' := by
  have HK := Lib.hid hk
  have HZ := Lib.hid hA
  clear hk hA
  go_enter Try.func21, Try.ntmps21
  go_wp2
  go_loopg [8, 11] l.length (fun g _ j wr => ∃ m : Nat, j = .int .i64 m ∧ m ≤ l.length ∧ l.length - m ≤ g ∧ BmAt wr w.heap.size (ofFrom k (l.take m)) ∧ BmAt wr (w.heap.size + 1) kz ∧ Below w.heap.size w wr)
  case atStart => exact ⟨0, rfl, by omega, by omega, BmAt.two _ _ _, BmAt.two' _ _ _, two_below _ _ _⟩
  case round =>
    obtain ⟨m, rfl, hm, hg, hA, hC, hB⟩ := hrel
    have HA := Lib.hid hA
    have HB := Lib.hid hB
    have HC := Lib.hid hC
    by_cases hlt : m < l.length
    · have hd : decide ((m : Int) < l.length) = true := by simp; omega
      obtain ⟨x, hx⟩ := get_zome hlt
      obtain ⟨b1, o1, rfl, h1⟩ := (HZ.out.below HB.out) m x hx
      have hld := hA.ld
      have HX := Lib.hid hx
      clear hA hB hC hx
      go_wp2_with fail
      refine (with_c _ (ofFrom_byt _ HK.out) x _).mono ?_
      rintro e w1 ⟨rfl, hb1⟩
      have hs := (HA.out.below hb1 HA.out.lt).st (insK (ofFrom k (l.take m)) x)
      have HA1 := Lib.hid ((HA.out.below hb1 HA.out.lt).row (insK (ofFrom k (l.take m)) x))
      have HC1 := Lib.hid ((HC.out.below hb1 HC.out.lt).row_other (c := w.heap.size) (by omega) (kc (insK (ofFrom k (l.take m)) x)))
      have HB1 := Lib.hid (below_row (HB.out.trans (hb1.mono HB.out.size)) (Nat.le_refl _) (kc (insK (ofFrom k (l.take m)) x)))
      clear hb1 hld
      go_wp2
      go_roundg (l.length - (m + 1))
      case measure => omega
      case rel => exact ⟨m + 1, by go_num, by omega, by omega, by rw [take_snoc HX.out, ofFrom_snoc]; exact HA1.out, HC1.out, HB1.out⟩
    · have hd : decide ((m : Int) < l.length) = false := by simp; omega
      rw [List.take_of_length_le (by omega)] at hA HA
      have hld := hA.ld
      have hs := hC.st (ofFrom k l)
      have HC1 := Lib.hid (hC.row (ofFrom k l))
      clear hA hB hC
      go_wp2
      refine bodyPost_ret (v := .agg (kc (ofFrom k l))) ?_ rfl ⟨rfl, below_row HB.out (by omega) _⟩
      exact results_cell_row Try.results21 _ _ (w.heap.size + 1) 25 _ (0, 0) _ rfl HC1.out Try.underlying25 rfl (by rw [kc_size]; exact infoBm)
set_option maxHeartbeats 400000 in
theorem ofs_c (A : Option Addr) (c : Nat) (l : List Int) (w : World) (hA : ZA w A l) (hl : l.length ≤ 4611686018427387904) :
    Calls Try.prog 10 #[.slice A l.length c] w fun e w' => e = .returned (.agg (kc (ofK l))) ∧ Below w.heap.size w w' := by
  have HA := Lib.hid hA
  have HL := Lib.hid hl
  clear hA hl
  go_enter Try.func10, Try.ntmps10
  go_wp2_with fail
  refine (fold_c kz kz_byt A c l _ (HA.out.below (one_below _ _)) HL.out).mono ?_
  rintro e w1 ⟨rfl, hb⟩
  have HB := Lib.hid ((one_below w (.cells (kc kz) 25)).trans (hb.mono (by simp)))
  have hz := (BmAt.one w kz).below hb (by simp)
  have hs := hz.st (ofFrom kz l)
  have HZ := Lib.hid (hz.row (ofFrom kz l))
  clear hb hz
  go_wp2
  refine bodyPost_ret (v := .agg (kc (ofFrom kz l))) ?_ rfl ⟨rfl, below_row HB.out (Nat.le_refl _) _⟩
  exact results_cell_row Try.results10 _ _ w.heap.size 25 _ (0, 0) _ rfl HZ.out Try.underlying25 rfl (by rw [kc_size]; exact infoBm)
end Go.Proofs.Ytpdmkojclgkcnaa.Bt
