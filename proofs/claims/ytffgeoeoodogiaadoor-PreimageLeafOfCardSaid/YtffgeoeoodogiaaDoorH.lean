/- The program's (*state).digest. -/
import Derived.Test.YtffgeoeoodogiaaDoorG
namespace Go.Proofs.YtffgeoeoodogiaaDoor
open Go.RowKit

@[go_sem high] theorem conv_u64 (x : UInt32) (w : World) : (convert 61 76 (u x)).run Tryd.prog w = .ok (.int .u64 (x.toNat : Int)) w := by
  have := lt32 x
  have e : IntKind.u64.wrap (x.toNat : Int) = x.toNat := by
    unfold IntKind.wrap
    rw [show (2 : Int) ^ IntKind.u64.bits = 18446744073709551616 from rfl, show IntKind.u64.signed = false from rfl]
    simp; omega
  unfold u; simp [go_sem, e]
theorem len56 : Tryd.prog.arrayLen 77 = 64 := by kernel_rfl
theorem elem56 : Tryd.prog.elem 77 = 5 := by kernel_rfl
theorem sl56 (g l : Nat) (hlt : l < 64) (L : Int) (eL : L = l) (w : World) :
    (Instr.sliceAt 77 (.pointer (some ⟨g, 0, none⟩)) (some (.int .i64 L)) none none).run Tryd.prog w = .ok (.slice (some ⟨g, l, none⟩) (64 - l) (64 - l)) w := by
  subst eL
  rw [run_sliceAt_array_l w 77 _ (by rw [len56, elem56]; exact Tryd.underlying77) .i64 _ (by omega) (by rw [len56]; omega), elem56, size5, len56]
  have hadd : (⟨g, 0, none⟩ : Addr).add l = ⟨g, l, none⟩ := by unfold Addr.add; split <;> simp_all
  simp [slicedAt, hadd, show ¬ 64 = l by omega]
theorem outB_at (s : S8) (k j : Nat) (hk : k < 8) (hj : j < 4) : (outB s).getD (4 * k + j) 0 = UInt8.ofNat ((s.list.getD k 0).toNat / 2 ^ (8 * (4 - 1 - j))) := by
  have h8 : k = 0 ∨ k = 1 ∨ k = 2 ∨ k = 3 ∨ k = 4 ∨ k = 5 ∨ k = 6 ∨ k = 7 := by omega
  have h4 : j = 0 ∨ j = 1 ∨ j = 2 ∨ j = 3 := by omega
  rcases h8 with rfl | rfl | rfl | rfl | rfl | rfl | rfl | rfl <;> (rcases h4 with rfl | rfl | rfl | rfl <;> rfl)
/-- The digest while its words are laid, k of them. -/
def outp (s : S8) (k : Nat) : List UInt8 := (List.range 32).map fun j => if j < 4 * k then (outB s).getD j 0 else 0
theorem outp_len (s : S8) (k : Nat) : (outp s k).length = 32 := by simp [outp]
theorem outp_zero (s : S8) : outp s 0 = z26 := by
  unfold outp z26
  apply List.ext_getElem?
  intro i
  rcases Nat.lt_or_ge i 32 with h | h
  · rw [List.getElem?_replicate, if_pos h, List.getElem?_map, List.getElem?_range h, Option.map_some, if_neg (by omega)]
  · rw [List.getElem?_eq_none (by simpa using h), List.getElem?_eq_none (by simpa using h)]
theorem outp_end (s : S8) : outp s 8 = outB s := by
  apply List.ext_getElem?
  intro i
  rcases Nat.lt_or_ge i 32 with h | h
  · have := outB_len s
    simp [outp, h, List.getD_eq_getElem?_getD, show i < (outB s).length by omega]
  · rw [List.getElem?_eq_none (by simpa [outp] using h), List.getElem?_eq_none (by rw [outB_len]; exact h)]
theorem outp_step (s : S8) (k : Nat) (hk : k < 8) : ovr (bA (outp s k)) (4 * k) 4 (pb 4 (s.list.getD k 0).toNat) 0 = bA (outp s (k + 1)) := by
  apply Array.ext_getElem?
  intro i
  by_cases h : 4 * k + 0 ≤ i ∧ i < 4 * k + 4
  · rw [ovr_at _ _ _ _ _ _ h.1 h.2 (by rw [bA_size, outp_len]; omega), bA_at _ _ (by rw [outp_len]; omega)]
    have e := outB_at s k (i - 4 * k) hk (by omega)
    rw [show 4 * k + (i - 4 * k) = i by omega] at e
    simp only [outp, List.getD_eq_getElem?_getD, List.getElem?_map, List.getElem?_range (show i < 32 by omega), Option.map_some, Option.getD_some]
    rw [List.getD_eq_getElem?_getD] at e
    rw [if_pos (by omega), e]
    rfl
  · rw [ovr_other _ _ _ _ _ _ h]
    rcases Nat.lt_or_ge i 32 with h2 | h2
    · rw [bA_at _ _ (by rw [outp_len]; exact h2), bA_at _ _ (by rw [outp_len]; exact h2)]
      simp only [outp, List.getD_eq_getElem?_getD, List.getElem?_map, List.getElem?_range h2, Option.map_some, Option.getD_some]
      by_cases h3 : i < 4 * k
      · rw [if_pos h3, if_pos (by omega)]
      · rw [if_neg h3, if_neg (by omega)]
    · rw [Array.getElem?_eq_none (by rw [bA_size, outp_len]; exact h2), Array.getElem?_eq_none (by rw [bA_size, outp_len]; exact h2)]

set_option maxHeartbeats 16000000 in
set_option maxRecDepth 100000 in
theorem digest_c (sb : Nat) (s : S8) (w : World) (hs : w.heap[sb]? = some (.cells (uA s.list) 69 (0, 0))) :
    Calls Tryd.prog 37 #[.pointer (some ⟨sb, 0, none⟩)] w fun e w' => e = .returned (.agg (bA (outB s))) ∧ Below w.heap.size w w' := by
  have ld0 : ∀ o1 o2, ldA 62 ((w.alloc o1).alloc o2) (.pointer (some ⟨sb, 0, none⟩)) = .ok (.value (.agg (uA s.list))) ((w.alloc o1).alloc o2) := fun o1 o2 =>
    ldA_row (t' := 69) (fr := (0, 0)) (by have := lt_of_heap hs; rw [Below.heap_alloc _ _ _ (by simp; omega), Below.heap_alloc _ _ _ this]; exact hs) Tryd.underlying62 (by rw [uS_size]; exact info39)
  clear hs
  go_enter Tryd.func37, Tryd.ntmps37
  go_wp2_with fail
  have hr1 : ((w.alloc (.cells (bA z26) 31)).alloc (.cells (bA z26) 31)).heap[w.heap.size]? = some (.cells (bA z26) 31 (0, 0)) := by
    rw [Below.heap_alloc _ _ _ (by simp)]; exact heap_alloc_new w _
  have hr2 : ((w.alloc (.cells (bA z26) 31)).alloc (.cells (bA z26) 31)).heap[w.heap.size + 1]? = some (.cells (bA (outp s 0)) 31 (0, 0)) := by
    rw [outp_zero]
    have := heap_alloc_new (w.alloc (.cells (bA z26) 31)) (.cells (bA z26) 31)
    rwa [show (w.alloc (.cells (bA z26) 31)).heap.size = w.heap.size + 1 by simp] at this
  have hB : Below w.heap.size w ((w.alloc (.cells (bA z26) 31)).alloc (.cells (bA z26) 31)) := ((Below.refl _ _).alloc (Nat.le_refl _) _).alloc (by simp) _
  have H1 := Lib.hid hr1
  have H2 := Lib.hid hr2
  have HB := Lib.hid hB
  clear hr1 hr2 hB ld0
  go_loopg [10] 8 (fun gg i wr => ∃ k : Nat, i = .int .i64 k ∧ k ≤ 8 ∧ 8 - k = gg ∧ wr.heap[w.heap.size]? = some (.cells (bA z26) 31 (0, 0)) ∧ wr.heap[w.heap.size + 1]? = some (.cells (bA (outp s k)) 31 (0, 0)) ∧ Below w.heap.size w wr)
  case atStart => exact ⟨0, rfl, by omega, by omega, H1.out, H2.out, HB.out⟩
  case round =>
    clear H1 H2 HB
    obtain ⟨k, rfl, hk, rfl, hr1, hr2, hB⟩ := hrel
    by_cases hlt : k < 8
    · have hd : decide ((k : Int) < 8) = true := by rw [decide_eq_true_eq]; omega
      have hix := fun w => idx39 s.list rfl k hlt w
      have hstep := outp_step s k hlt
      obtain ⟨X, hX⟩ : ∃ X, X = s.list.getD k 0 := ⟨_, rfl⟩
      rw [← hX] at hstep
      simp only [← hX] at hix
      have H1 := Lib.hid hr1
      have H2 := Lib.hid hr2
      have HB := Lib.hid hB
      have HS := Lib.hid hstep
      clear hX hr1 hr2 hB hstep
      have w1 : IntKind.i64.wrap (4 * (k : Int)) = 4 * (k : Int) := IntWalk.i64_in _ (by omega)
      have w2 : IntKind.i64.wrap ((k : Int) + 1) = (k : Int) + 1 := IntWalk.i64_in _ (by omega)
      have w3 : IntKind.i64.wrap (4 * ((k : Int) + 1)) = 4 * ((k : Int) + 1) := IntWalk.i64_in _ (by omega)
      have hsl : ∀ v, (Instr.sliceAt 31 (.pointer (some ⟨w.heap.size + 1, 0, none⟩)) (some (.int .i64 (4 * (k : Int)))) (some (.int .i64 (4 * ((k : Int) + 1)))) none).run Tryd.prog v = .ok (.slice (some ⟨w.heap.size + 1, 4 * k, none⟩) 4 (32 - 4 * k)) v := fun v => by
        have := sl26 (w.heap.size + 1) (4 * k) (4 * k + 4) (by omega) (by omega) (by omega) (4 * (k : Int)) (4 * ((k : Int) + 1)) (by omega) (by omega) v
        rwa [show 4 * k + 4 - 4 * k = 4 by omega] at this
      go_wp2_with fail
      refine (put_c (w.heap.size + 1) (4 * k) 4 (32 - 4 * k) X.toNat (bA (outp s k)) 31 wr H2.out (by decide) (by rw [bA_size, outp_len]; omega)).mono ?_
      rintro e w5 ⟨rfl, rfl⟩
      rw [HS.out]
      have HN := Lib.hid (setRow_heap wr (w.heap.size + 1) _ (bA (outp s (k + 1))) _ _ H2.out)
      have HM : Hid ((wr.setRow (w.heap.size + 1) (bA (outp s (k + 1)))).heap[w.heap.size]? = some (.cells (bA z26) 31 (0, 0))) := by
        show _ = _
        rw [setRow_other _ _ _ _ (by omega)]; exact H1.out
      have HB2 := Lib.hid (below_setRow HB.out (show w.heap.size ≤ w.heap.size + 1 by omega) (bA (outp s (k + 1))))
      clear hsl w1 w2 w3
      go_wp2_with fail
      go_roundg (8 - (k + 1))
      case measure => omega
      case rel => exact ⟨k + 1, by go_num, by omega, rfl, HM.out, HN.out, HB2.out⟩
    · obtain rfl : k = 8 := by omega
      rw [outp_end] at hr2
      have ld1 : ldA 31 wr (.pointer (some ⟨w.heap.size + 1, 0, none⟩)) = .ok (.value (.agg (bA (outB s)))) wr := ldA_row hr2 Tryd.underlying31 (by rw [bA_size, outB_len]; exact info26)
      have st1 : stA 31 wr (.pointer (some ⟨w.heap.size, 0, none⟩)) (.agg (bA (outB s))) = .ok .skip (wr.setRow w.heap.size (bA (outB s))) := stA_row hr1 (by rw [bA_size, outB_len]; exact info26) (by rw [bA_size, bA_size, outB_len]; rfl) (bA_one _)
      have HM := Lib.hid (setRow_heap wr w.heap.size _ (bA (outB s)) _ _ hr1)
      have HB := Lib.hid (below_setRow hB (Nat.le_refl w.heap.size) (bA (outB s)))
      clear hr1 hr2 hB
      go_wp2_with fail
      refine bodyPost_ret (v := .agg (bA (outB s))) ?_ rfl ⟨rfl, HB.out⟩
      exact results_cell_row Tryd.results37 _ _ w.heap.size 31 _ (0, 0) _ rfl HM.out Tryd.underlying31 rfl (by rw [bA_size, outB_len]; exact info26)
end Go.Proofs.YtffgeoeoodogiaaDoor
