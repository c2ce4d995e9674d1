/- The program's schedule. -/
import Derived.Test.YtffgeoeoodogiaaDoorE
import Derived.Deep.QuietTactic
import Derived.StillTailTactics
namespace Go.Proofs.YtffgeoeoodogiaaDoor
open Go.RowKit

def z58 : List UInt32 := List.replicate 64 0
theorem zero58 : ∀ w, (zeroValue 79).run Tryd.prog w = .ok (.agg (uA z58)) w := fun _ => by kernel_rfl
attribute [go_sem ↓] zero58
/-- The words while the bytes of a block are read. -/
def wl (b : Nat → UInt8) (n : Nat) : List UInt32 := (List.range 64).map (accw b n)
theorem wl_len (b : Nat → UInt8) (n : Nat) : (wl b n).length = 64 := by simp [wl]
theorem wl_at (b : Nat → UInt8) (n t : Nat) (h : t < 64) : (wl b n).getD t 0 = accw b n t := by simp [wl, List.getD_eq_getElem?_getD, h]
theorem wl_zero (b : Nat → UInt8) : wl b 0 = z58 := by
  unfold wl z58
  apply List.ext_getElem?
  intro i
  rcases Nat.lt_or_ge i 64 with h | h
  · rw [List.getElem?_replicate, if_pos h, List.getElem?_map, List.getElem?_range h, Option.map_some, accw_zero]
  · rw [List.getElem?_eq_none (by simpa using h), List.getElem?_eq_none (by simpa using h)]
theorem wl_step (b : Nat → UInt8) (n : Nat) (h : n < 64) : (wl b n).set (n / 4) ((accw b n (n / 4) <<< 8) ||| (b n).toUInt32) = wl b (n + 1) := by
  apply List.ext_getElem?
  intro i
  rw [List.getElem?_set]
  by_cases e : n / 4 = i
  · subst e
    simp [wl, show n / 4 < 64 by omega, accw_here]
  · rw [if_neg e]
    rcases Nat.lt_or_ge i 64 with h2 | h2
    · simp [wl, h2, accw_other b n i (fun x => e x.symm)]
    · rw [List.getElem?_eq_none (by simpa [wl] using h2), List.getElem?_eq_none (by simpa [wl] using h2)]
/-- The words while the schedule is extended: those below i. -/
def sl (b : Nat → UInt8) (i : Nat) : List UInt32 := (List.range 64).map fun t => if t < i then sw b t else 0
theorem sl_len (b : Nat → UInt8) (n : Nat) : (sl b n).length = 64 := by simp [sl]
theorem sl_at (b : Nat → UInt8) (n t : Nat) (h : t < 64) (h2 : t < n) : (sl b n).getD t 0 = sw b t := by simp [sl, List.getD_eq_getElem?_getD, h, h2]
theorem sl_start (b : Nat → UInt8) : wl b 64 = sl b 16 := by
  unfold wl sl
  refine List.map_congr_left fun t ht => ?_
  have : t < 64 := by simpa using ht
  by_cases h : t < 16
  · rw [if_pos h, accw_end b t h, sw_word b t h]
  · rw [if_neg h, accw, show min 4 (64 - 4 * t) = 0 by omega, acc]
theorem sl_step (b : Nat → UInt8) (i : Nat) (h : i < 64) : (sl b i).set i (sw b i) = sl b (i + 1) := by
  apply List.ext_getElem?
  intro t
  rw [List.getElem?_set]
  by_cases e : i = t
  · subst e
    simp [sl, h]
  · rw [if_neg e]
    rcases Nat.lt_or_ge t 64 with h2 | h2
    · simp only [sl, List.getElem?_map, List.getElem?_range h2, Option.map_some]
      by_cases h3 : t < i
      · rw [if_pos h3, if_pos (by omega)]
      · rw [if_neg h3, if_neg (by omega)]
    · rw [List.getElem?_eq_none (by simpa [sl] using h2), List.getElem?_eq_none (by simpa [sl] using h2)]
theorem sl_end (b : Nat → UInt8) : sl b 64 = sched b := by
  apply List.ext_getElem?
  intro t
  rcases Nat.lt_or_ge t 64 with h2 | h2
  · simp [sl, h2, sw, sched_len]
  · rw [List.getElem?_eq_none (by simpa [sl] using h2), List.getElem?_eq_none (by rw [sched_len]; exact h2)]

@[go_sem high] theorem conv_bu (x : UInt8) (w : World) : (convert 5 61 (bv x)).run Tryd.prog w = .ok (u x.toUInt32) w := conv_u x w
set_option maxHeartbeats 16000000 in
set_option maxRecDepth 100000 in
theorem psched_f (l : List UInt8) (f : Nat → UInt8) (w : World) (hl : l.length = 64) (HF : Hid (∀ k, f k = l.getD k 0)) :
    Calls Tryd.prog 41 #[.agg (bA l)] w fun e w' => e = .returned (.agg (uA (sched f))) ∧ Below w.heap.size w w' := by
  have HL := Lib.hid hl
  have ld0 : ldA 77 (((w.alloc (.cells (bA l) 77)).alloc (.cells (uA z58) 79)).alloc (.cells (uA z58) 79)) (.pointer (some ⟨w.heap.size, 0, none⟩)) = .ok (.value (.agg (bA l))) (((w.alloc (.cells (bA l) 77)).alloc (.cells (uA z58) 79)).alloc (.cells (uA z58) 79)) :=
    ldA_row (t' := 77) (fr := (0, 0)) (by rw [Below.heap_alloc _ _ _ (by simp; omega), Below.heap_alloc _ _ _ (by simp)]; exact heap_alloc_new w _) Tryd.underlying77 (by rw [bA_size, hl]; exact info56)
  clear hl
  go_enter Tryd.func41, Tryd.ntmps41
  go_wp2_with fail
  clear ld0
  have hB3 : Below w.heap.size w (((w.alloc (.cells (bA l) 77)).alloc (.cells (uA z58) 79)).alloc (.cells (uA z58) 79)) := (((Below.refl _ _).alloc (Nat.le_refl _) _).alloc (by simp) _).alloc (by simp; omega) _
  have hr1 : (((w.alloc (.cells (bA l) 77)).alloc (.cells (uA z58) 79)).alloc (.cells (uA z58) 79)).heap[w.heap.size + 1]? = some (.cells (uA z58) 79 (0, 0)) := by
    rw [Below.heap_alloc _ _ _ (by simp)]
    have := heap_alloc_new (w.alloc (.cells (bA l) 77)) (.cells (uA z58) 79)
    rwa [show (w.alloc (.cells (bA l) 77)).heap.size = w.heap.size + 1 by simp] at this
  have hr2 : (((w.alloc (.cells (bA l) 77)).alloc (.cells (uA z58) 79)).alloc (.cells (uA z58) 79)).heap[w.heap.size + 1 + 1]? = some (.cells (uA (wl f 0)) 79 (0, 0)) := by
    rw [wl_zero]
    have := heap_alloc_new ((w.alloc (.cells (bA l) 77)).alloc (.cells (uA z58) 79)) (.cells (uA z58) 79)
    rwa [show ((w.alloc (.cells (bA l) 77)).alloc (.cells (uA z58) 79)).heap.size = w.heap.size + 1 + 1 by simp] at this
  have HB3 := Lib.hid hB3
  have HR1 := Lib.hid hr1
  have HR2 := Lib.hid hr2
  clear hB3 hr1 hr2
  go_loopg [12] 64 (fun gg i wr => ∃ k : Nat, i = .int .i64 k ∧ k ≤ 64 ∧ 64 - k = gg ∧ wr.heap[w.heap.size + 1 + 1]? = some (.cells (uA (wl f k)) 79 (0, 0)) ∧ wr.heap[w.heap.size + 1]? = some (.cells (uA z58) 79 (0, 0)) ∧ Below w.heap.size w wr)
  case atStart => exact ⟨0, rfl, by omega, by omega, HR2.out, HR1.out, HB3.out⟩
  case round =>
    obtain ⟨k, rfl, hk, rfl, hrow, hres, hB⟩ := hrel
    by_cases hlt : k < 64
    · have hcell : wr.cell? ⟨w.heap.size + 1 + 1, k / 4, none⟩ = some (u (accw f k (k / 4))) := by
        rw [cell_of_cells hrow, uA_at _ _ (by rw [wl_len]; omega), wl_at _ _ _ (by omega)]
      have hfz : wr.frozen? ⟨w.heap.size + 1 + 1, k / 4, none⟩ = false := frozen_of_row wr _ _ _ _ hrow
      have hix : ∀ w, (Instr.index 77 (.agg (bA l)) (.int .i64 (k : Int))).run Tryd.prog w = .ok (bv (f k)) w := fun w => by rw [HF.out]; exact idx56 l HL.out k hlt w
      obtain ⟨x, hx⟩ : ∃ x, x = f k := ⟨_, rfl⟩
      obtain ⟨y, hy⟩ : ∃ y, y = accw f k (k / 4) := ⟨_, rfl⟩
      rw [← hx] at hix
      rw [← hy] at hcell
      have HN : Hid ((wr.setCell ⟨w.heap.size + 1 + 1, k / 4, none⟩ (u (y <<< 8 ||| x.toUInt32))).heap[w.heap.size + 1 + 1]? = some (.cells (uA (wl f (k + 1))) 79 (0, 0))) := by
        show _ = _
        rw [set_row hrow, uA_set, hx, hy, wl_step f k hlt]
      have HM : Hid ((wr.setCell ⟨w.heap.size + 1 + 1, k / 4, none⟩ (u (y <<< 8 ||| x.toUInt32))).heap[w.heap.size + 1]? = some (.cells (uA z58) 79 (0, 0))) := set_keep hres (by omega)
      have HB := Lib.hid (hB.setCell (p := ⟨w.heap.size + 1 + 1, k / 4, none⟩) (by show w.heap.size ≤ w.heap.size + 1 + 1; omega) (u (y <<< 8 ||| x.toUInt32)))
      clear hx hy hrow hres hB
      have p2 : (0 : Int) ≤ (k : Int) / 4 := by omega
      have q2 : (k : Int) / 4 < 64 := by omega
      have n2 : ((k : Int) / 4).toNat = k / 4 := by omega
      go_wp2_with fail
      go_roundg (64 - (k + 1))
      case measure => omega
      case rel => exact ⟨k + 1, by go_num, by omega, rfl, HN.out, HM.out, HB.out⟩
    · obtain rfl : k = 64 := by omega
      rw [sl_start] at hrow
      have HN := Lib.hid hrow
      have HM := Lib.hid hres
      have HB := Lib.hid hB
      clear hrow hres hB
      go_wp2_with fail
      go_loopg [6] 48 (fun gg i wr => ∃ k : Nat, i = .int .i64 k ∧ 16 ≤ k ∧ k ≤ 64 ∧ 64 - k = gg ∧ wr.heap[w.heap.size + 1 + 1]? = some (.cells (uA (sl f k)) 79 (0, 0)) ∧ wr.heap[w.heap.size + 1]? = some (.cells (uA z58) 79 (0, 0)) ∧ Below w.heap.size w wr)
      case atStart => exact ⟨16, rfl, by omega, by omega, by omega, HN.out, HM.out, HB.out⟩
      case round =>
        clear HN HM HB
        obtain ⟨k, rfl, hk1, hk2, rfl, hrow, hres, hB⟩ := hrel
        by_cases hlt : k < 64
        · have HR := Lib.hid hrow
          have HS := Lib.hid hres
          have HB := Lib.hid hB
          clear hrow hres hB
          have cell : ∀ (v : World), v.heap = wr.heap → ∀ d, 0 < d → d < 17 → v.cell? ⟨w.heap.size + 1 + 1, k - d, none⟩ = some (u (sw f (k - d))) := fun v hv d h1 h2 => by
            rw [cell_of_cells (by rw [hv]; exact HR.out), uA_at _ _ (by rw [sl_len]; omega), sl_at _ _ _ (by omega) (by omega)]
          have c15 := cell wr rfl 15 (by decide) (by decide)
          have c2 := cell wr rfl 2 (by decide) (by decide)
          obtain ⟨X16, h16⟩ : ∃ x, x = sw f (k - 16) := ⟨_, rfl⟩
          obtain ⟨X15, h15⟩ : ∃ x, x = sw f (k - 15) := ⟨_, rfl⟩
          obtain ⟨X7, h7⟩ : ∃ x, x = sw f (k - 7) := ⟨_, rfl⟩
          obtain ⟨X2, h2⟩ : ∃ x, x = sw f (k - 2) := ⟨_, rfl⟩
          have HX : Hid (sw f k = X16 + (rotrI X15 7 ^^^ rotrI X15 18 ^^^ X15 >>> 3) + X7 + (rotrI X2 17 ^^^ rotrI X2 19 ^^^ X2 >>> 10)) := by
            show _ = _
            rw [sw_step f k hk1 hlt, h16, h15, h7, h2]; rfl
          rw [← h15] at c15
          rw [← h2] at c2
          have HC := Lib.hid cell
          have H16 := Lib.hid h16
          have H7 := Lib.hid h7
          clear cell h16 h15 h7 h2
          have hd : decide ((k : Int) < 64) = true := by rw [decide_eq_true_eq]; omega
          have w15 : IntKind.i64.wrap ((k : Int) - 15) = (k : Int) - 15 := IntWalk.i64_in _ (by omega)
          have p15 : (0 : Int) ≤ (k : Int) - 15 := by omega
          have q15 : (k : Int) - 15 < 64 := by omega
          have n15 : ((k : Int) - 15).toNat = k - 15 := by omega
          have w2 : IntKind.i64.wrap ((k : Int) - 2) = (k : Int) - 2 := IntWalk.i64_in _ (by omega)
          have p2 : (0 : Int) ≤ (k : Int) - 2 := by omega
          have q2 : (k : Int) - 2 < 64 := by omega
          have n2 : ((k : Int) - 2).toNat = k - 2 := by omega
          go_wp2_with fail
          refine wp_region_quiet_lit (by kernel_rfl) (by kernel_rfl) ?_
          repeat (go_big_quiet_step (fail))
          refine wpQuiet_nil ?_
          rintro _ ⟨nq, rfl⟩
          clear c15 c2
          go_wp2_with (go_at_call 42; (first | (with_reducible refine (right_any _ 7 (by decide) _).mono ?_) | (with_reducible refine (right_any _ 18 (by decide) _).mono ?_) | (with_reducible refine (right_any _ 17 (by decide) _).mono ?_) | (with_reducible refine (right_any _ 19 (by decide) _).mono ?_)); rintro e w' ⟨rfl, rfl⟩)
          have hrq : (wr.drewN nq).heap[w.heap.size + 1 + 1]? = some (.cells (uA (sl f k)) 79 (0, 0)) := HR.out
          have hsq : (wr.drewN nq).heap[w.heap.size + 1]? = some (.cells (uA z58) 79 (0, 0)) := HS.out
          have hbq : Below w.heap.size w (wr.drewN nq) := below_drewN HB.out nq
          have c16 := HC.out (wr.drewN nq) rfl 16 (by decide) (by decide)
          have c7 := HC.out (wr.drewN nq) rfl 7 (by decide) (by decide)
          obtain ⟨wq, hwq⟩ : ∃ wq, wq = wr.drewN nq := ⟨_, rfl⟩
          rw [← hwq] at hrq hsq hbq c16 c7 ⊢
          rw [← H16.out] at c16
          rw [← H7.out] at c7
          clear hwq
          have HN : Hid ((wq.setCell ⟨w.heap.size + 1 + 1, k, none⟩ (u (X16 + (rotrI X15 7 ^^^ rotrI X15 18 ^^^ X15 >>> 3) + X7 + (rotrI X2 17 ^^^ rotrI X2 19 ^^^ X2 >>> 10)))).heap[w.heap.size + 1 + 1]? = some (.cells (uA (sl f (k + 1))) 79 (0, 0))) := by
            show _ = _
            rw [set_row hrq, uA_set, ← HX.out, sl_step f k hlt]
          have HM : Hid ((wq.setCell ⟨w.heap.size + 1 + 1, k, none⟩ (u (X16 + (rotrI X15 7 ^^^ rotrI X15 18 ^^^ X15 >>> 3) + X7 + (rotrI X2 17 ^^^ rotrI X2 19 ^^^ X2 >>> 10)))).heap[w.heap.size + 1]? = some (.cells (uA z58) 79 (0, 0))) := set_keep hsq (by omega)
          have HB2 := Lib.hid (hbq.setCell (p := ⟨w.heap.size + 1 + 1, k, none⟩) (by show w.heap.size ≤ w.heap.size + 1 + 1; omega) (u (X16 + (rotrI X15 7 ^^^ rotrI X15 18 ^^^ X15 >>> 3) + X7 + (rotrI X2 17 ^^^ rotrI X2 19 ^^^ X2 >>> 10))))
          have ck : wq.cell? ⟨w.heap.size + 1 + 1, k, none⟩ = some (u ((sl f k).getD k 0)) := by rw [cell_of_cells hrq, uA_at _ _ (by rw [sl_len]; omega)]
          obtain ⟨old, hold⟩ : ∃ x, x = (sl f k).getD k 0 := ⟨_, rfl⟩
          rw [← hold] at ck
          have fk : wq.frozen? ⟨w.heap.size + 1 + 1, k, none⟩ = false := frozen_of_row wq _ _ _ _ hrq
          clear hrq hsq hbq hold w15 p15 q15 n15 w2 p2 q2 n2
          have w16 : IntKind.i64.wrap ((k : Int) - 16) = (k : Int) - 16 := IntWalk.i64_in _ (by omega)
          have p16 : (0 : Int) ≤ (k : Int) - 16 := by omega
          have q16 : (k : Int) - 16 < 64 := by omega
          have n16 : ((k : Int) - 16).toNat = k - 16 := by omega
          have w7 : IntKind.i64.wrap ((k : Int) - 7) = (k : Int) - 7 := IntWalk.i64_in _ (by omega)
          have p7 : (0 : Int) ≤ (k : Int) - 7 := by omega
          have q7 : (k : Int) - 7 < 64 := by omega
          have n7 : ((k : Int) - 7).toNat = k - 7 := by omega
          have pk : (0 : Int) ≤ (k : Int) := by omega
          have qk : (k : Int) < 64 := by omega
          refine wp_region_drawn_tail 15 (by kernel_rfl) (by kernel_rfl) ?_
          simp only [List.take_succ_cons, List.take_zero, List.drop_succ_cons, List.drop_zero]
          repeat (go_big_quiet_step (fail))
          refine wpQuiet_nil ?_
          rintro _ ⟨nq2, rfl⟩
          clear w16 w7
          go_wp2_with fail
          go_roundg (64 - (k + 1))
          case measure => omega
          case rel => exact ⟨k + 1, by go_num, by omega, by omega, rfl, HN.out, HM.out, below_drewN HB2.out nq2⟩
        · obtain rfl : k = 64 := by omega
          rw [sl_end] at hrow
          have ld1 : ldA 79 wr (.pointer (some ⟨w.heap.size + 1 + 1, 0, none⟩)) = .ok (.value (.agg (uA (sched f)))) wr := ldA_row hrow Tryd.underlying79 (by rw [uA_size, sched_len]; exact info58)
          have st1 : stA 79 wr (.pointer (some ⟨w.heap.size + 1, 0, none⟩)) (.agg (uA (sched f))) = .ok .skip (wr.setRow (w.heap.size + 1) (uA (sched f))) := stA_row hres (by rw [uA_size, sched_len]; exact info58) (by rw [uA_size, uA_size, sched_len]; rfl) (uA_one _)
          have HM := Lib.hid (setRow_heap wr (w.heap.size + 1) _ (uA (sched f)) _ _ hres)
          have HB := Lib.hid (below_setRow hB (show w.heap.size ≤ w.heap.size + 1 by omega) (uA (sched f)))
          clear hrow hres hB
          go_wp2_with fail
          refine bodyPost_ret (v := .agg (uA (sched f))) ?_ rfl ⟨rfl, HB.out⟩
          exact results_cell_row Tryd.results41 _ _ (w.heap.size + 1) 79 _ (0, 0) _ rfl HM.out Tryd.underlying79 rfl (by rw [uA_size, sched_len]; exact info58)
theorem psched_c (l : List UInt8) (w : World) (hl : l.length = 64) :
    Calls Tryd.prog 41 #[.agg (bA l)] w fun e w' => e = .returned (.agg (uA (sched fun t => l.getD t 0))) ∧ Below w.heap.size w w' :=
  psched_f l _ w hl fun _ => rfl
end Go.Proofs.YtffgeoeoodogiaaDoor
