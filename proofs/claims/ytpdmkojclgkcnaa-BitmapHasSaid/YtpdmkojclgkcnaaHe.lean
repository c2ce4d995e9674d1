/- The program's sets of depths: Has, With, Without, List, Len, Last, Of. -/
import Derived.Test.YtpdmkojclgkcnaaHb
import Derived.Test.YtpdmkojclgkcnaaHd
import Derived.Test.YtpdmkojclgkcnaaBtBit
import Derived.Test.YtpdmkojclgkcnaaBtFlip
import Derived.Deep.LoopGhost
namespace Go.Proofs.Ytpdmkojclgkcnaa.Bt
open Go.RowKit

theorem ret_boolb {a b : Bool} (h : a = b) : Ending.returned (.bool a) = .returned (.bool b) := by rw [h]
set_option maxHeartbeats 400000 in
theorem has_c (k : Nat → Nat) (hk : Byt k) (i : Int) (w : World) :
    Calls Try.prog 12 #[.agg (kc k), .int .i64 i] w fun e w' => e = .returned (.bool (hasK k i)) ∧ Below w.heap.size w w' := by
  go_enter Try.func12, Try.ntmps12
  go_wp2_with fail
  refine (bit_c k hk i _).mono ?_
  rintro e w1 ⟨rfl, hb⟩
  have HB : Hid (Below w.heap.size w w1) := (one_below _ _).trans (hb.mono (by simp))
  clear hb hk
  go_wp2
  go_ret
  exact ⟨rfl, HB.out⟩
set_option maxHeartbeats 400000 in
theorem bflip_c (k : Nat → Nat) (hk : Byt k) (i : Int) (w : World) :
    Calls Try.prog 23 #[.agg (kc k), .int .i64 i] w fun e w' => e = .returned (.agg (kc (flipI k i))) ∧ Below w.heap.size w w' := by
  go_enter Try.func23, Try.ntmps23
  go_wp2_with fail
  refine (flip_c k hk i _).mono ?_
  rintro e w1 ⟨rfl, hb⟩
  have HB : Hid (Below w.heap.size w w1) := (two_below _ _ _).trans (hb.mono (by simp; omega))
  have hz := (BmAt.two' w kz (.cells (kc k) 25)).below hb (by simp)
  have hs := hz.st (flipI k i)
  have HZ : Hid (BmAt (w1.setRow (w.heap.size + 1) (kc (flipI k i))) (w.heap.size + 1) (flipI k i)) := hz.row _
  clear hb hk hz
  go_wp2
  refine bodyPost_ret (v := .agg (kc (flipI k i))) ?_ rfl ⟨rfl, below_row HB.out (by omega) _⟩
  exact results_cell_row Try.results23 _ _ (w.heap.size + 1) 25 _ (0, 0) _ rfl HZ.out Try.underlying25 rfl (by rw [kc_size]; exact infoBm)
set_option maxHeartbeats 400000 in
theorem with_c (k : Nat → Nat) (hk : Byt k) (i : Int) (w : World) :
    Calls Try.prog 14 #[.agg (kc k), .int .i64 i] w fun e w' => e = .returned (.agg (kc (insK k i))) ∧ Below w.heap.size w w' := by
  by_cases hh : hasK k i = true
  · rw [show insK k i = k by unfold insK; rw [if_pos hh]]
    go_enter Try.func14, Try.ntmps14
    go_wp2_with fail
    refine (has_c k hk i _).mono ?_
    rintro e w1 ⟨rfl, hb⟩
    have HB : Hid (Below w.heap.size w w1) := (two_below _ _ _).trans (hb.mono (by simp; omega))
    have hz := (BmAt.two' w kz (.cells (kc k) 25)).below hb (by simp)
    have hl := ((BmAt.two w k (.cells (kc kz) 25)).below hb (by simp; omega)).ld
    have hs := hz.st k
    have HZ : Hid (BmAt (w1.setRow (w.heap.size + 1) (kc k)) (w.heap.size + 1) k) := hz.row _
    clear hb hk hz
    go_wp2
    refine bodyPost_ret (v := .agg (kc k)) ?_ rfl ⟨rfl, below_row HB.out (by omega) _⟩
    exact results_cell_row Try.results14 _ _ (w.heap.size + 1) 25 _ (0, 0) _ rfl HZ.out Try.underlying25 rfl (by rw [kc_size]; exact infoBm)
  · have hf : hasK k i = false := by simpa using hh
    rw [show insK k i = flipI k i by unfold insK; rw [if_neg hh]]
    clear hh
    go_enter Try.func14, Try.ntmps14
    go_wp2_with fail
    refine (has_c k hk i _).mono ?_
    rintro e w1 ⟨rfl, hb⟩
    have HB : Hid (Below w.heap.size w w1) := (two_below _ _ _).trans (hb.mono (by simp; omega))
    have hz := (BmAt.two' w kz (.cells (kc k) 25)).below hb (by simp)
    have hl := ((BmAt.two w k (.cells (kc kz) 25)).below hb (by simp; omega)).ld
    have HL := Lib.hid hl
    have HK := Lib.hid hk
    have HZ := Lib.hid hz
    clear hb hk hz
    go_wp2_with fail
    refine (bflip_c k HK.out i _).mono ?_
    rintro e w2 ⟨rfl, hb⟩
    have HB2 : Hid (Below w.heap.size w w2) := HB.out.trans (hb.mono HB.out.size)
    have hz := HZ.out.below hb HZ.out.lt
    have hs := hz.st (flipI k i)
    have HZ2 : Hid (BmAt (w2.setRow (w.heap.size + 1) (kc (flipI k i))) (w.heap.size + 1) (flipI k i)) := hz.row _
    clear hb hz hl hf
    go_wp2
    refine bodyPost_ret (v := .agg (kc (flipI k i))) ?_ rfl ⟨rfl, below_row HB2.out (by omega) _⟩
    exact results_cell_row Try.results14 _ _ (w.heap.size + 1) 25 _ (0, 0) _ rfl HZ2.out Try.underlying25 rfl (by rw [kc_size]; exact infoBm)
set_option maxHeartbeats 400000 in
theorem without_c (k : Nat → Nat) (hk : Byt k) (i : Int) (w : World) :
    Calls Try.prog 15 #[.agg (kc k), .int .i64 i] w fun e w' => e = .returned (.agg (kc (delK k i))) ∧ Below w.heap.size w w' := by
  by_cases hh : hasK k i = true
  · rw [show delK k i = flipI k i by unfold delK; rw [if_pos hh]]
    go_enter Try.func15, Try.ntmps15
    go_wp2_with fail
    refine (has_c k hk i _).mono ?_
    rintro e w1 ⟨rfl, hb⟩
    have HB : Hid (Below w.heap.size w w1) := (two_below _ _ _).trans (hb.mono (by simp; omega))
    have hz := (BmAt.two' w kz (.cells (kc k) 25)).below hb (by simp)
    have hl := ((BmAt.two w k (.cells (kc kz) 25)).below hb (by simp; omega)).ld
    have HK := Lib.hid hk
    have HZ := Lib.hid hz
    clear hb hk hz
    go_wp2_with fail
    refine (bflip_c k HK.out i _).mono ?_
    rintro e w2 ⟨rfl, hb⟩
    have HB2 : Hid (Below w.heap.size w w2) := HB.out.trans (hb.mono HB.out.size)
    have hz := HZ.out.below hb HZ.out.lt
    have hs := hz.st (flipI k i)
    have HZ2 : Hid (BmAt (w2.setRow (w.heap.size + 1) (kc (flipI k i))) (w.heap.size + 1) (flipI k i)) := hz.row _
    clear hb hz hl hh
    go_wp2
    refine bodyPost_ret (v := .agg (kc (flipI k i))) ?_ rfl ⟨rfl, below_row HB2.out (by omega) _⟩
    exact results_cell_row Try.results15 _ _ (w.heap.size + 1) 25 _ (0, 0) _ rfl HZ2.out Try.underlying25 rfl (by rw [kc_size]; exact infoBm)
  · have hf : hasK k i = false := by simpa using hh
    rw [show delK k i = k by unfold delK; rw [if_neg hh]]
    clear hh
    go_enter Try.func15, Try.ntmps15
    go_wp2_with fail
    refine (has_c k hk i _).mono ?_
    rintro e w1 ⟨rfl, hb⟩
    have HB : Hid (Below w.heap.size w w1) := (two_below _ _ _).trans (hb.mono (by simp; omega))
    have hz := (BmAt.two' w kz (.cells (kc k) 25)).below hb (by simp)
    have hl := ((BmAt.two w k (.cells (kc kz) 25)).below hb (by simp; omega)).ld
    have hs := hz.st k
    have HZ : Hid (BmAt (w1.setRow (w.heap.size + 1) (kc k)) (w.heap.size + 1) k) := hz.row _
    clear hb hk hz
    go_wp2
    refine bodyPost_ret (v := .agg (kc k)) ?_ rfl ⟨rfl, below_row HB.out (by omega) _⟩
    exact results_cell_row Try.results15 _ _ (w.heap.size + 1) 25 _ (0, 0) _ rfl HZ.out Try.underlying25 rfl (by rw [kc_size]; exact infoBm)
end Go.Proofs.Ytpdmkojclgkcnaa.Bt
