/- The program's padding. -/
import Derived.Test.YtffgeoeoodogiaaDoorI
import Derived.Laws.MakeOwn
namespace Go.Proofs.YtffgeoeoodogiaaDoor
open Go.RowKit

theorem put_i (g o n c X : Nat) (XI : Int) (hX : XI = X) (cs : Array Value) (T : TypeId) (w : World) (hg : w.heap[g]? = some (.cells cs T (0, 0))) (hn : n ≤ 8) (hs : o + n ≤ cs.size) :
    Calls Tryd.prog 44 #[.slice (some ⟨g, o, none⟩) n c, .int .u64 XI] w fun e w' => e = .returned (.tuple #[]) ∧ w' = w.setRow g (ovr cs o n (pb n X) 0) := by
  subst hX; exact put_c g o n c X cs T w hg hn hs
theorem blocks_nat (n : Nat) (w : World) (h : n ≤ 1000000000) : Calls Tryd.prog 43 #[.int .i64 (n : Int)] w fun e w' => e = .returned (.int .i64 (((n + 72) / 64 : Nat) : Int)) ∧ w = w' := by
  refine (blocks_c n w (by omega) (by omega)).mono ?_
  rintro e w' ⟨rfl, rfl⟩
  exact ⟨ret_int (by unfold blocksI; rw [if_neg (by omega)]; omega), rfl⟩
theorem padTail_get (n j : Nat) (L : Nat) (hL : (padTail n).length = L) : ((padTail n).getD j 0) = if j = 0 then 128 else if j < L - 8 then 0 else (beN 8 (8 * n)).getD (j - (L - 8)) 0 := by
  have hl := hL
  unfold padTail at hl ⊢
  simp only [List.length_cons, List.length_append, List.length_replicate, beN_len] at hl
  rcases j with _ | j
  · rfl
  · simp only [List.getD_eq_getElem?_getD, List.getElem?_cons_succ, if_neg (Nat.succ_ne_zero j)]
    by_cases h : j + 1 < L - 8
    · rw [if_pos h, List.getElem?_append_left (by simp; omega)]
      simp [show j < zeros n by omega]
    · rw [if_neg h, List.getElem?_append_right (by simp; omega)]
      simp only [List.length_replicate]
      rw [show j - zeros n = j + 1 - (L - 8) by omega]
theorem pad_laid (n L : Nat) (hL : (padTail n).length = L) (h9 : 9 ≤ L) : ovr (bA ((List.replicate L (0 : UInt8)).set 0 128)) (L - 8) 8 (pb 8 (8 * n)) 0 = bA (padTail n) := by
  apply Array.ext_getElem?
  intro i
  rcases Nat.lt_or_ge i L with h2 | h2
  · rw [bA_at (padTail n) i (by omega), padTail_get n i L hL]
    by_cases h : L - 8 + 0 ≤ i ∧ i < L - 8 + 8
    · rw [ovr_at _ _ _ _ _ _ h.1 h.2 (by rw [bA_size]; simpa using h2), if_neg (by omega), if_neg (by omega), beN_at _ _ _ (by omega)]
      rfl
    · rw [ovr_other _ _ _ _ _ _ h, bA_at _ _ (by simpa using h2)]
      by_cases h0 : i = 0
      · subst h0
        simp [List.getD_eq_getElem?_getD, show 0 < L by omega]
      · rw [if_neg h0, if_pos (by omega)]
        simp [List.getD_eq_getElem?_getD, Ne.symm h0, h2]
  · rw [Array.getElem?_eq_none (by rw [ovr_size, bA_size]; simpa using h2), Array.getElem?_eq_none (by rw [bA_size, hL]; exact h2)]

set_option maxHeartbeats 16000000 in
set_option maxRecDepth 100000 in
theorem padding_c (n : Nat) (w : World) (hn : n ≤ 1000000000) :
    Calls Tryd.prog 36 #[.int .i64 (n : Int)] w fun e w' => e = .returned (.slice (some ⟨w.heap.size, 0, none⟩) (padTail n).length (padTail n).length) ∧ w'.heap[w.heap.size]? = some (.cells (bA (padTail n)) 5 (0, 0)) ∧ Below w.heap.size w w' := by
  obtain ⟨M, hM⟩ : ∃ M, M = (n + 72) / 64 := ⟨_, rfl⟩
  obtain ⟨L, hL⟩ : ∃ L, L = (padTail n).length := ⟨_, rfl⟩
  have hLM : L = 64 * M - n := by rw [hL, padTail_len, hM]
  have h9 : 9 ≤ L := by omega
  have hMM : M ≤ 20000000 := by omega
  have hMn : n + L = 64 * M := by omega
  rw [← hL]
  have hb := fun w => blocks_nat n w hn
  simp only [← hM] at hb
  have HB := Lib.hid hb
  have hmk := fun w => make_b L ((M : Int) * 64 - (n : Int)) (by omega) (by omega) w
  obtain ⟨Z, hZ⟩ : ∃ Z, Z = bA (List.replicate L 0) := ⟨_, rfl⟩
  simp only [← hZ] at hmk
  have hc0 : ∀ w : World, (w.alloc (.cells Z 5)).cell? ⟨w.heap.size, 0, none⟩ = some (bv 0) := fun w => by
    rw [cell_of_cells (heap_alloc_new w _), hZ, bA_at _ _ (by simp; omega)]
    simp [List.getD_eq_getElem?_getD, show 0 < L by omega]
  have hZs : Z.setIfInBounds 0 (.int .u8 128) = bA ((List.replicate L (0 : UInt8)).set 0 128) := by
    rw [hZ]; exact bA_set _ 0 128
  obtain ⟨Y, hY⟩ : ∃ Y, Y = bA ((List.replicate L (0 : UInt8)).set 0 128) := ⟨_, rfl⟩
  rw [← hY] at hZs
  have hYs : Y.size = L := by rw [hY, bA_size]; simp
  have HY := Lib.hid hY
  have HYs := Lib.hid hYs
  clear hZ hY hYs
  have HP := Lib.hid (pad_laid n L hL.symm h9)
  have h72 : (L : Int) ≤ 72 := by omega
  have hs2 : ∀ (g : Nat) (v : World), (Instr.sliceAt 24 (.slice (some ⟨g, 0, none⟩) L L) (some (.int .i64 ((L : Int) - 8))) none none).run Tryd.prog v = .ok (.slice (some ⟨g, L - 8, none⟩) 8 8) v := fun g v => by
    have := slice_from (some ⟨g, 0, none⟩) L L (L - 8) (by omega) v
    rw [show (((L - 8 : Nat) : Nat) : Int) = (L : Int) - 8 by omega, if_neg (by omega), show L - (L - 8) = 8 by omega] at this
    simpa [add_none] using this
  have HL := Lib.hid hL
  have HM := Lib.hid hM
  have p1 : (M : Int) * 64 ≤ 2000000000 := by omega
  have p2 : (n : Int) ≤ (M : Int) * 64 := by omega
  have p3 : (8 : Int) ≤ (L : Int) := by omega
  clear hb hL hM hLM hMn
  go_enter Tryd.func36, Tryd.ntmps36
  go_wp2_with fail
  refine (HB.out _).mono ?_
  rintro e w' ⟨rfl, rfl⟩
  go_wp2_with fail
  refine (put_i w.heap.size (L - 8) 8 8 (8 * n) _ (by simp) Y 5 _ (heap_alloc_new w _) (by decide) (by rw [HYs.out]; omega)).mono ?_
  rintro e w5 ⟨rfl, rfl⟩
  rw [World.setRow_alloc_new, HY.out, HP.out]
  go_wp2_with fail
  go_ret
  exact ⟨rfl, heap_alloc_new w _, (Below.refl _ _).alloc (Nat.le_refl _) _⟩
end Go.Proofs.YtffgeoeoodogiaaDoor
