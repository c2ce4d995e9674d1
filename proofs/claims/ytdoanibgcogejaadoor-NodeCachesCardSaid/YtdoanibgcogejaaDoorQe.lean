/- The program's Digest (as landed). -/
import Derived.Test.YtdoanibgcogejaaDoorQd
namespace Go.Proofs.YtdoanibgcogejaaDoor
open Go.RowKit

/-- A block that was made since is written. -/
theorem Keep.newRow {L : Nat → Prop} {w w' : World} {g : Nat} (h : Keep L w w') (hg : w.heap.size ≤ g) (cs : Array Value) : Keep L w (w'.setRow g cs) :=
  h.step (Keep.row w' g cs) fun i hi => .inr (by have e : i = g := hi; omega)
set_option maxHeartbeats 4000000 in
set_option maxRecDepth 100000 in
theorem digest_n (w : World) (b : Nat) (n : Int) (c : Nat) (T : Tv) (hh : Hs w b n c) (hc : c ≤ 2000000) (hvx : Vars w) (h : Mn w n T) :
    Calls Tryd.prog 13 #[ptr b, T.val] w fun x w' => ∃ c', x = .returned (.agg (bA (digT n T.tr))) ∧ c' ≤ c + 1 ∧ (T.tr ≠ .nil → c' = c) ∧ Hs w' b n c' ∧ Keep (fun i => i = b) w w' := by
  obtain ⟨X, hX⟩ : ∃ X, X = w.alloc (.cells (bA z26) 30) := ⟨_, rfl⟩
  have hb0 : Below w.heap.size w X := by rw [hX]; exact (Below.refl _ _).alloc (Nat.le_refl _) _
  have r0 : X.heap[w.heap.size]? = some (.cells (bA z26) 30 (0, 0)) := by rw [hX]; exact heap_alloc_new w _
  have HX := Lib.hid hX
  have HB0 := Lib.hid hb0
  have HR0 := Lib.hid r0
  have HH0 := Lib.hid (hh.keep (Keep.of_below (L := fun _ => False) hb0) fun h => h)
  have HV0 := Lib.hid (hvx.below hb0)
  have HGB : Hid (w.heap.size ≠ b) := by have := lt_of_heap hh; show _ ≠ _; omega
  by_cases hT : T = .nil
  · subst hT
    rw [show (Tv.nil).val = .pointer none from rfl, show digT n (Tv.nil).tr = digL n emptyL from rfl]
    obtain ⟨q, hq⟩ : ∃ q, q = digL n emptyL := ⟨_, rfl⟩
    have hql : q.length = 32 := by rw [hq]; exact dig_len _ _
    have HQ := Lib.hid hq
    have HQL := Lib.hid hql
    rw [← hq]
    have HC := Lib.hid (pempty_c X)
    clear hX hb0 r0 h hvx hh hq hql
    go_enter Tryd.func13, Tryd.ntmps13
    go_wp2_with fail
    rw [← HX.out]
    refine HC.out.mono ?_
    rintro _ w1 ⟨A1, c1, rfl, hl1, hc1, hA1, hB⟩
    have HB1 := Lib.hid hB
    have HH1 := Lib.hid (HH0.out.keep (Keep.of_below (L := fun _ => False) hB) fun h => h)
    have HC1 := Lib.hid (sum_hs b n c A1 emptyL c1 w1 HH1.out (by omega) hA1 hc1 (by decide) (HV0.out.below hB))
    rw [show emptyL.length = 1 from rfl, ← HQ.out] at HC1
    clear hl1 hc1 hA1 hB HC
    go_wp2_with fail
    refine HC1.out.mono ?_
    rintro _ w2 ⟨rfl, hh2, hk2⟩
    have hr2 : w2.heap[w.heap.size]? = some (.cells (bA z26) 30 (0, 0)) := hk2.heap ((Keep.of_below (L := fun _ => False) HB1.out).heap HR0.out fun h => h) HGB.out
    have st := stA_row (t := 30) (v := bA q) hr2 (by rw [bA_size, HQL.out]; exact info26) (by rw [bA_size, bA_size, HQL.out]; rfl) (bA_one _)
    have HM := Lib.hid (setRow_heap w2 w.heap.size _ (bA q) 30 _ hr2)
    have HK : Hid (Keep (fun i => i = b) w (w2.setRow w.heap.size (bA q))) := (((Keep.of_below HB0.out).trans (Keep.of_below HB1.out)).trans hk2).newRow (Nat.le_refl _) _
    have HHF : Hid (Hs (w2.setRow w.heap.size (bA q)) b n (c + 1)) := by
      show Hs _ _ _ _
      unfold Hs
      rw [setRow_other _ _ _ _ (Ne.symm HGB.out)]
      exact hh2
    clear hh2 hk2 hr2 HC1
    go_wp2_with fail
    refine bodyPost_ret (v := .agg (bA q)) ?_ rfl ⟨c + 1, rfl, Nat.le_refl _, fun h => absurd rfl h, HHF.out, HK.out⟩
    exact results_cell_row Tryd.results13 _ _ w.heap.size 30 _ (0, 0) _ rfl HM.out Tryd.underlying30 rfl (by rw [bA_size, HQL.out]; exact info26)
  · obtain ⟨g, d, ct, hv, hg, hd⟩ : ∃ g d ct, T.val = ptr g ∧ NodeAt w g d ct ∧ d = digT n T.tr := by
      match T, h, hT with
      | .leaf v e, ⟨g, A, c, hv, hg, _⟩, _ => exact ⟨g, _, _, hv, hg, rfl⟩
      | .inner v a b, ⟨g, hv, hg, _⟩, _ => exact ⟨g, _, _, hv, hg, rfl⟩
      | .nil, _, h => exact absurd rfl h
    have hdl : d.length = 32 := by rw [hd]; exact digT_len _ _
    have htn : T.tr ≠ .nil ∨ True := .inr trivial
    rw [hv, ← hd]
    have ld : ldA 30 (w.alloc (.cells (bA z26) 30)) (.pointer (some ⟨g, 0, none⟩)) = .ok (.value (.agg (bA d))) (w.alloc (.cells (bA z26) 30)) := by
      rw [← hX]
      exact (hg.below hb0).dig hdl
    have st := stA_new (t := 30) w (bA z26) (bA d) (by rw [bA_size, hdl]; exact info26) (by rw [bA_size, bA_size, hdl]; rfl) (bA_one _)
    have HM := Lib.hid (heap_alloc_new w (.cells (bA d) 30))
    have HDL := Lib.hid hdl
    have HK : Hid (Keep (fun i => i = b) w (w.alloc (.cells (bA d) 30))) := (Keep.refl _ _).alloc _
    have HHF : Hid (Hs (w.alloc (.cells (bA d) 30)) b n c) := hh.keep ((Keep.refl (fun _ => False) w).alloc _) fun h => h
    clear hX hb0 r0 h hvx hh hv hg hd hdl htn
    unfold ptr
    go_enter Tryd.func13, Tryd.ntmps13
    go_wp2_with fail
    refine bodyPost_ret (v := .agg (bA d)) ?_ rfl ⟨c, rfl, Nat.le_succ _, fun _ => rfl, HHF.out, HK.out⟩
    exact results_cell_row Tryd.results13 _ _ w.heap.size 30 _ (0, 0) _ rfl HM.out Tryd.underlying30 rfl (by rw [bA_size, HDL.out]; exact info26)
end Go.Proofs.YtdoanibgcogejaaDoor
