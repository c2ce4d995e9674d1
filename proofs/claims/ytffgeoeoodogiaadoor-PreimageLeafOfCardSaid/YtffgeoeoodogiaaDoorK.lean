/- The program's Join and Sum. -/
import Derived.Test.YtffgeoeoodogiaaDoorJ
namespace Go.Proofs.YtffgeoeoodogiaaDoor
open Go.RowKit

theorem zero49 : ∀ w, (zeroValue 69).run Tryd.prog w = .ok (.agg (uA z39)) w := fun _ => by kernel_rfl
attribute [go_sem ↓] zero49
theorem bld49 (w : World) : bldA 69 w #[(0, .agg (uA init8.list))] = .ok (.value (.agg (uA init8.list))) w := by kernel_rfl
/-- The words in the variable with which every state begins. -/
def IT (w : World) : Prop := w.rangeAt 0 0 (init8.list.map u)
theorem IT.keep {L : Nat → Prop} {a b : World} (h : IT a) (k : Keep L a b) (h1 : ¬ L 0) : IT b := fun j v hv => k.cellAt (h j v hv) h1
theorem IT.ld {w : World} (h : IT w) : ldA 62 w (.pointer (some ⟨0, 0, none⟩)) = .ok (.value (.agg (uA init8.list))) w := ldA_of h Tryd.underlying62 (by rw [List.length_map, s8_len]; exact info39)
/-- The world when the pieces begin to come. -/
def W0 (w : World) : World := ((((w.alloc (.cells (bA z26) 31)).alloc (.cells (uA init8.list) 69)).alloc (.cells #[addV (w.heap.size + 1)] 72)).alloc (.cells (bA z56) 77)).alloc (.cells #[.int .i64 0] 3)
theorem W0_size (w : World) : (W0 w).heap.size = w.heap.size + 5 := by simp [W0]
theorem W0_keep (w : World) : Keep (fun _ => False) w (W0 w) := (((((Keep.refl _ w).alloc _).alloc _).alloc _).alloc _).alloc _
theorem W0_str (w : World) (hk : KT w) : Str (W0 w) (w.heap.size + 2) (w.heap.size + 3) (w.heap.size + 4) (w.heap.size + 1) [] := by
  obtain ⟨_, h1, h2, h3, h4⟩ := heap5 w (.cells (bA z26) 31) (.cells (uA init8.list) 69) (.cells #[addV (w.heap.size + 1)] 72) (.cells (bA z56) 77) (.cells #[.int .i64 0] 3)
  exact ⟨h2, ⟨z56, rfl, rfl, h3⟩, h4, h1, hk.keep (W0_keep w) fun h => h⟩
theorem KT.two {w : World} (h : KT w) : 1 + 1 ≤ w.heap.size := lt_of_cell (h 0 (by decide))
theorem four {w : World} (h : KT w) : Four (w.heap.size + 2) (w.heap.size + 3) (w.heap.size + 4) (w.heap.size + 1) := by
  have := h.two
  exact ⟨by omega, by omega, by omega, by omega, by omega, by omega, by omega, by omega, by omega⟩

set_option maxHeartbeats 16000000 in
set_option maxRecDepth 100000 in
theorem join_c (A : Option Addr) (c : Nat) (ls : List Pc) (w : World) (hA : SL w A ls) (hk : KT w) (hi : IT w) (hl : (catAll ls).length ≤ 1000000) (hls : ls.length ≤ 1000000) :
    Calls Tryd.prog 28 #[.slice A ls.length c] w fun e w' => e = .returned (.agg (bA (sumL (catAll ls)))) ∧ Below w.heap.size w w' := by
  have hmf : ∀ (fn : Fn) (first cap : Array Value) (w : World), (Instr.makeFunc fn first cap).run Tryd.prog w = .ok (.func fn first cap) w := fun _ _ _ _ => rfl
  have ld0 : ∀ o, ldA 62 (w.alloc o) (.pointer (some ⟨0, 0, none⟩)) = .ok (.value (.agg (uA init8.list))) (w.alloc o) := fun o => (hi.keep ((Keep.refl (fun _ => False) w).alloc o) fun h => h).ld
  have bl0 := bld49
  have st0 := fun ob => stA_two w ob (uA z39) (uA init8.list) (t := 69) info49 rfl (uA_one _)
  have HA := Lib.hid hA
  have HK := Lib.hid hk
  clear hA hk hi
  go_enter Tryd.func28, Tryd.ntmps28
  go_wp2_with fail
  refine (inBlocks_c (w.heap.size + 1) _).mono ?_
  rintro e w1 ⟨rfl, hw1⟩
  have hw : w1 = W0 w := hw1
  have hsz : w1.heap.size = w.heap.size + 5 := by rw [hw, W0_size]
  have hS1 : Str w1 (w.heap.size + 2) (w.heap.size + 3) (w.heap.size + 4) (w.heap.size + 1) (cat ls 0) := by rw [hw]; exact W0_str w HK.out
  have hk1 : Keep (fun _ => False) w w1 := by rw [hw]; exact W0_keep w
  have hr1 : w1.heap[w.heap.size]? = some (.cells (bA z26) 31 (0, 0)) := by rw [hw]; exact (heap5 w _ _ _ _ _).1
  have HSZ := Lib.hid hsz
  have HS1 := Lib.hid hS1
  have HK1 := Lib.hid hk1
  have HR1 := Lib.hid hr1
  have H4 := Lib.hid (four HK.out)
  clear hw hw1 hsz hS1 hk1 hr1 ld0 bl0 st0
  go_wp2_with fail
  go_loopg [5, 14] ls.length (fun gg n i wr => ∃ k : Nat, i = .int .i64 k ∧ k ≤ ls.length ∧ ls.length - k = gg ∧ n = .int .i64 (((cat ls k).length : Nat) : Int) ∧ Str wr (w.heap.size + 2) (w.heap.size + 3) (w.heap.size + 4) (w.heap.size + 1) (cat ls k) ∧ Keep (Wr (w.heap.size + 3) (w.heap.size + 4) (w.heap.size + 1)) w1 wr)
  case atStart => exact ⟨0, rfl, by omega, by omega, rfl, HS1.out, Keep.refl _ _⟩
  case round =>
    obtain ⟨k, rfl, hkl, rfl, rfl, hS, hKr⟩ := hrel
    have HS := Lib.hid hS
    have HKr := Lib.hid hKr
    have hB : ∀ i, i < w.heap.size → ¬ Wr (w.heap.size + 3) (w.heap.size + 4) (w.heap.size + 1) i := fun i hi h => by
      rcases h with h | h | h <;> omega
    have HB := Lib.hid hB
    have hcl := cat_le ls k
    clear hS hKr hB
    by_cases hlt : k < ls.length
    · obtain ⟨x, hx⟩ : ∃ x, ls[k]? = some x := ⟨_, List.getElem?_eq_getElem hlt⟩
      obtain ⟨hxc, hxb, g, o, rfl, hcell⟩ := HA.out k x hx
      have hcs := cat_succ ls k x hx
      have hcl2 := cat_le ls (k + 1)
      have hlen : (cat ls (k + 1)).length = (cat ls k).length + x.l.length := by rw [hcs, List.length_append]
      have hcr : wr.cell? ⟨g, o + k, none⟩ = some (.slice x.A x.l.length x.c) := HKr.out.cellAt (HK1.out.cellAt hcell fun h => h) (HB.out g (lt_of_cell hcell))
      have HBX : Hid (BX wr (Wr (w.heap.size + 3) (w.heap.size + 4) (w.heap.size + 1)) x.A x.l) := BX.keep (hxb.bx HK1.out (fun _ _ h => h) HB.out) HKr.out (fun _ h => h)
      have HCS := Lib.hid hcs
      have HLEN := Lib.hid hlen
      have b1 : (cat ls k).length + x.l.length ≤ 1000000 := by omega
      have hd : decide (k < ls.length) = true := decide_eq_true hlt
      have p0 : (0 : Int) ≤ (k : Int) := by omega
      have p1 : (k : Int) < (ls.length : Int) := by omega
      clear hx hcell hxb hcs hlen
      go_wp2_with fail
      refine (write_c (w.heap.size + 2) (w.heap.size + 3) (w.heap.size + 4) (w.heap.size + 1) (cat ls k) x.A x.c x.l wr H4.out HS.out HBX.out hxc).mono ?_
      rintro e w5 ⟨rfl, hS5, hk5⟩
      rw [← HCS.out] at hS5
      have HS5 := Lib.hid hS5
      have HK5 := Lib.hid (HKr.out.trans hk5)
      clear hS5 hk5 hcr
      go_wp2_with fail
      go_roundg (ls.length - (k + 1))
      case measure => omega
      case rel => exact ⟨k + 1, by go_num, by omega, rfl, by rw [HLEN.out]; go_num, HS5.out, HK5.out⟩
    · obtain rfl : k = ls.length := by omega
      have hd : decide (ls.length < ls.length) = false := decide_eq_false (by omega)
      obtain ⟨N, hN⟩ : ∃ N, N = (cat ls ls.length).length := ⟨_, rfl⟩
      rw [← hN]
      have hN2 : N ≤ 1000000 := by omega
      have HN := Lib.hid hN
      clear hN
      go_wp2_with fail
      refine (padding_c N wr (by omega)).mono ?_
      rintro e w5 ⟨rfl, hp5, hb5⟩
      have hS5 : Str w5 (w.heap.size + 2) (w.heap.size + 3) (w.heap.size + 4) (w.heap.size + 1) (cat ls ls.length) := HS.out.keep (Keep.of_below (L := fun _ => False) hb5) (fun h => h) (fun h => h) (fun h => h) (fun h => h) (fun h => h)
      have hszr : w.heap.size + 5 ≤ wr.heap.size := by rw [← HSZ.out]; exact HKr.out.size
      have HBX : Hid (BX w5 (Wr (w.heap.size + 3) (w.heap.size + 4) (w.heap.size + 1)) (some ⟨wr.heap.size, 0, none⟩) (padTail N)) := fun j x hx => by
        refine ⟨_, _, rfl, fun h => (by rcases h with h | h | h <;> omega), ?_⟩
        have hj := (List.getElem?_eq_some_iff.1 hx).1
        rw [cell_of_cells hp5, Nat.zero_add, bA_at _ _ hj]
        simp [List.getD_eq_getElem?_getD, hx]
      have HS5 := Lib.hid hS5
      have HK5 := Lib.hid (HKr.out.step (Keep.of_below (L := fun _ => False) hb5) fun _ h => h.elim)
      clear hp5 hb5 hS5
      go_wp2_with fail
      refine (write_c (w.heap.size + 2) (w.heap.size + 3) (w.heap.size + 4) (w.heap.size + 1) (cat ls ls.length) (some ⟨wr.heap.size, 0, none⟩) (padTail N).length (padTail N) w5 H4.out HS5.out HBX.out (Nat.le_refl _)).mono ?_
      rintro e w6 ⟨rfl, hS6, hk6⟩
      have hT : cat ls ls.length ++ padTail N = padL (catAll ls) := by rw [HN.out, ← padL_eq, cat_all]
      rw [hT] at hS6
      have HS6 := Lib.hid hS6
      have HK6 := Lib.hid (HK5.out.trans hk6)
      clear hS6 hk6 hT
      go_wp2_with fail
      refine (digest_c (w.heap.size + 1) (stOf (padL (catAll ls))) w6 HS6.out.st).mono ?_
      rintro e w7 ⟨rfl, hb7⟩
      rw [← sumL_eq]
      have hr7 : w7.heap[w.heap.size]? = some (.cells (bA z26) 31 (0, 0)) := by
        have h1 := HK6.out.heap HR1.out (by intro h; rcases h with h | h | h <;> omega)
        rw [hb7.block _ (lt_of_heap h1)]; exact h1
      have st1 : stA 31 w7 (.pointer (some ⟨w.heap.size, 0, none⟩)) (.agg (bA (sumL (catAll ls)))) = .ok .skip (w7.setRow w.heap.size (bA (sumL (catAll ls)))) := stA_row hr7 (by rw [bA_size, sumL_len]; exact info26) (by rw [bA_size, bA_size, sumL_len]; rfl) (bA_one _)
      have HM := Lib.hid (setRow_heap w7 w.heap.size _ (bA (sumL (catAll ls))) _ _ hr7)
      have HBW : Hid (Below w.heap.size w (w7.setRow w.heap.size (bA (sumL (catAll ls))))) := below_setRow ((((HK1.out.step HK6.out (M := Wr (w.heap.size + 3) (w.heap.size + 4) (w.heap.size + 1)) fun i hi => .inr (by rcases hi with h | h | h <;> omega)).below (Nat.le_refl _) fun _ h => h.elim)).trans (hb7.mono (by have := HK6.out.size; have := HSZ.out; omega))) (Nat.le_refl _) _
      clear hr7 hb7
      go_wp2_with fail
      refine bodyPost_ret (v := .agg (bA (sumL (catAll ls)))) ?_ rfl ⟨rfl, HBW.out⟩
      exact results_cell_row Tryd.results28 _ _ w.heap.size 31 _ (0, 0) _ rfl HM.out Tryd.underlying31 rfl (by rw [bA_size, sumL_len]; exact info26)
set_option maxHeartbeats 2000000 in
set_option maxRecDepth 100000 in
theorem sum_c (A : Option Addr) (c : Nat) (l : List UInt8) (w : World) (hA : BA w A l) (hc : l.length ≤ c) (hk : KT w) (hi : IT w) (hl : l.length ≤ 1000000) :
    Calls Tryd.prog 23 #[.slice A l.length c] w fun e w' => e = .returned (.agg (bA (sumL l))) ∧ Below w.heap.size w w' := by
  have hB1 : Below w.heap.size w (w.alloc (.cells (bA z26) 31)) := (Below.refl _ _).alloc (Nat.le_refl _) _
  have hsl : SL ((w.alloc (.cells (bA z26) 31)).alloc (.cells #[.slice A l.length c] 24)) (some ⟨w.heap.size + 1, 0, none⟩) [⟨A, l, c⟩] := by
    have := sl_one (hA.below hB1) hc 24
    rwa [show (w.alloc (.cells (bA z26) 31)).heap.size = w.heap.size + 1 by simp] at this
  have hkp : Keep (fun _ => False) w ((w.alloc (.cells (bA z26) 31)).alloc (.cells #[.slice A l.length c] 24)) := ((Keep.refl _ w).alloc _).alloc _
  have HJ := Lib.hid (join_c (some ⟨w.heap.size + 1, 0, none⟩) 1 [⟨A, l, c⟩] _ hsl (hk.keep hkp fun h => h) (hi.keep hkp fun h => h) (by simpa [catAll] using hl) (show 1 ≤ 1000000 by decide))
  have HKp := Lib.hid hkp
  clear hB1 hsl hkp
  go_enter Tryd.func23, Tryd.ntmps23
  go_wp2_with fail
  refine HJ.out.mono ?_
  rintro e w5 ⟨rfl, hb⟩
  rw [show catAll [⟨A, l, c⟩] = l by simp [catAll]]
  have hr : w5.heap[w.heap.size]? = some (.cells (bA z26) 31 (0, 0)) := by
    rw [hb.block _ (by simp; omega), Below.heap_alloc _ _ _ (by simp)]; exact heap_alloc_new w _
  have st1 : stA 31 w5 (.pointer (some ⟨w.heap.size, 0, none⟩)) (.agg (bA (sumL l))) = .ok .skip (w5.setRow w.heap.size (bA (sumL l))) := stA_row hr (by rw [bA_size, sumL_len]; exact info26) (by rw [bA_size, bA_size, sumL_len]; rfl) (bA_one _)
  have HM := Lib.hid (setRow_heap w5 w.heap.size _ (bA (sumL l)) _ _ hr)
  have HBW : Hid (Below w.heap.size w (w5.setRow w.heap.size (bA (sumL l)))) := below_setRow ((HKp.out.below (Nat.le_refl _) fun _ h => h.elim).trans (hb.mono (by simp; omega))) (Nat.le_refl _) _
  clear hr hb
  go_wp2_with fail
  refine bodyPost_ret (v := .agg (bA (sumL l))) ?_ rfl ⟨rfl, HBW.out⟩
  exact results_cell_row Tryd.results23 _ _ w.heap.size 31 _ (0, 0) _ rfl HM.out Tryd.underlying31 rfl (by rw [bA_size, sumL_len]; exact info26)
end Go.Proofs.YtffgeoeoodogiaaDoor
