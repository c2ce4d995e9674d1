/- The program's Digest of the empty subtree, without the nodes in memory. -/
import Derived.Test.YtnmbbfndboohjaaDoorMD
import Derived.Test.YtnmbbfndboohjaaDoorMP
import Derived.Test.YtnmbbfndboohjaaDoorLr
namespace Go.Proofs.YtnmbbfndboohjaaDoor
open Go.RowKit

theorem Keep.new16 {L : Nat → Prop} {w w' : World} {g : Nat} (h : Keep L w w') (hg : w.heap.size ≤ g) (cs : Array Value) : Keep L w (w'.setRow g cs) :=
  h.step (Keep.row w' g cs) fun i hi => .inr (by have e : i = g := hi; omega)
set_option maxHeartbeats 4000000 in
set_option maxRecDepth 100000 in
theorem digN_c (w : World) (b : Nat) (n : Int) (c : Nat) (hh : Hs w b n c) (hc : c ≤ 2000000) (hvx : Vars w) :
    Calls Tryd.prog 50 #[ptr b, .pointer none] w fun x w' => ∃ c', x = .returned (.agg (bA (digL n emptyL))) ∧ c' ≤ c + 1 ∧ Hs w' b n c' ∧ Keep (fun i => i = b) w w' := by
  obtain ⟨X, hX⟩ : ∃ X, X = w.alloc (.cells (bA z26) 24) := ⟨_, rfl⟩
  have hb0 : Below w.heap.size w X := by rw [hX]; exact (Below.refl _ _).alloc (Nat.le_refl _) _
  have r0 : X.heap[w.heap.size]? = some (.cells (bA z26) 24 (0, 0)) := by rw [hX]; exact heap_alloc_new w _
  have HX := Lib.hid hX
  have HB0 := Lib.hid hb0
  have HR0 := Lib.hid r0
  have HH0 := Lib.hid (hh.keep (Keep.of_below (L := fun _ => False) hb0) fun h => h)
  have HV0 := Lib.hid (hvx.below hb0)
  have HGB : Hid (w.heap.size ≠ b) := by have := lt_of_heap hh; show _ ≠ _; omega
  obtain ⟨q, hq⟩ : ∃ q, q = digL n emptyL := ⟨_, rfl⟩
  have hql : q.length = 32 := by rw [hq]; exact dig_len _ _
  have HQ := Lib.hid hq
  have HQL := Lib.hid hql
  rw [← hq]
  have HC := Lib.hid (pempty_c X)
  clear hX hb0 r0 hvx hh hq hql
  go_enter Tryd.func50, Tryd.ntmps50
  go_wp2_with fail
  rw [← HX.out]
  refine HC.out.mono ?_
  rintro _ w1 ⟨A1, c1, rfl, hl1, hc1, hA1, hB⟩
  have HB1 := Lib.hid hB
  have HH1 := Lib.hid (HH0.out.keep (Keep.of_below (L := fun _ => False) hB) fun h => h)
  have HC1 := Lib.hid (sum_hs b n c A1 emptyL c1 w1 HH1.out (by omega) hA1 hc1 (by decide) (HV0.out.below hB))
  rw [show emptyL.length = 1 from rfl, ← HQ.out] at HC1
  clear hl1 hc1 hA1 hB HC
  go_wp2_with fail
  refine HC1.out.mono ?_
  rintro _ w2 ⟨rfl, hh2, hk2⟩
  have hr2 : w2.heap[w.heap.size]? = some (.cells (bA z26) 24 (0, 0)) := hk2.heap ((Keep.of_below (L := fun _ => False) HB1.out).heap HR0.out fun h => h) HGB.out
  have st := stA_row (t := 24) (v := bA q) hr2 (by rw [bA_size, HQL.out]; exact info26) (by rw [bA_size, bA_size, HQL.out]; rfl) (bA_one _)
  have HM := Lib.hid (setRow_heap w2 w.heap.size _ (bA q) 24 _ hr2)
  have HK : Hid (Keep (fun i => i = b) w (w2.setRow w.heap.size (bA q))) := (((Keep.of_below HB0.out).trans (Keep.of_below HB1.out)).trans hk2).new16 (Nat.le_refl _) _
  have HHF : Hid (Hs (w2.setRow w.heap.size (bA q)) b n (c + 1)) := by
    show Hs _ _ _ _
    unfold Hs
    rw [setRow_other _ _ _ _ (Ne.symm HGB.out)]
    exact hh2
  clear hh2 hk2 hr2 HC1
  go_wp2_with fail
  refine bodyPost_ret (v := .agg (bA q)) ?_ rfl ⟨c + 1, rfl, Nat.le_refl _, HHF.out, HK.out⟩
  exact results_cell_row Tryd.results50 _ _ w.heap.size 24 _ (0, 0) _ rfl HM.out Tryd.underlying24 rfl (by rw [bA_size, HQL.out]; exact info26)
end Go.Proofs.YtnmbbfndboohjaaDoor
