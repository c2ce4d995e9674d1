/- The program's SplitLeaf and SplitNode, as they landed. -/
import Derived.Test.YtffgeoeoodogiaaDoorGa
import Derived.Test.YtffgeoeoodogiaaDoorSl
namespace Go.Proofs.YtffgeoeoodogiaaDoor
open Go.RowKit

/-- A leaf in memory, read as a result. -/
theorem varLeaf {w : World} {g : Nat} {t : TypeId} {fr : Nat × Nat} {l : List UInt8} (h : w.heap[g]? = some (.cells (bA l) t fr)) (hl : l.length = 64) : (loadVar 33 ⟨g, 0, none⟩).run Tryd.prog w = .ok (.agg (bA l)) w :=
  run_loadVar_row (P := Tryd.prog) w g t 33 (bA l) fr _ h Tryd.underlying33 rfl (by rw [bA_size, hl]; exact infoLeaf)

set_option maxHeartbeats 4000000 in
set_option maxRecDepth 100000 in
theorem splitLeaf_c (A : Option Addr) (c : Nat) (l : List UInt8) (w : World) (hA : BA w A l) (hc : l.length ≤ c) (hm : l.length ≤ maxLen) :
    Calls Tryd.prog 9 #[.slice A l.length c] w fun e w' =>
      e = .returned (.tuple #[.agg (bA (if kindL l = 0 then partL l 1 ++ partL l 33 else z64)), .bool (decide (kindL l = 0))]) ∧ Below w.heap.size w w' := by
  have hb0 : Below w.heap.size w (w.alloc (.cells (bA z64) 33)) := (Below.refl _ _).alloc (Nat.le_refl _) _
  have HK := Lib.hid (kind_c A c l _ (hA.below hb0) hm)
  have HB0 := Lib.hid hb0
  have HR0 := Lib.hid (RowB.alloc w z64 33)
  by_cases hk : kindL l = 0
  · have hlen := kind01 (.inl hk)
    rw [if_pos hk, decide_eq_true hk]
    rw [hk] at HK
    rw [hlen] at HK hc ⊢
    obtain ⟨g, o, rfl, hx0⟩ := hA 0 _ (List.getElem?_eq_getElem (show 0 < l.length by omega))
    clear hx0
    have HBA := Lib.hid (hA.below hb0)
    have HP1 := Lib.hid (part_len (b := l) (o := 1) (by omega))
    have HP2 := Lib.hid (part_len (b := l) (o := 33) (by omega))
    obtain ⟨X, hX⟩ : ∃ X, X = w.alloc (.cells (bA z64) 33) := ⟨_, rfl⟩
    rw [← hX] at HBA HR0 HB0 HK
    have l1 : ∀ n, ldA 23 (X.drewN n) (.pointer (some ⟨g, o + 1, none⟩)) = .ok (.value (.agg (bA (partL l 1)))) (X.drewN n) := fun n => BA.ld (w := X.drewN n) HBA.out (by omega) Tryd.underlying23 infoKey
    have l2 : ∀ n, ldA 31 (X.drewN n) (.pointer (some ⟨g, o + 33, none⟩)) = .ok (.value (.agg (bA (partL l 33)))) (X.drewN n) := fun n => BA.ld (w := X.drewN n) HBA.out (by omega) Tryd.underlying31 info26
    have c1 : ∀ w, (Instr.sliceAt 24 (.slice (some ⟨g, o, none⟩) 65 c) (some (.int .i64 1)) (some (.int .i64 33)) none).run Tryd.prog w = .ok (.slice (some ⟨g, o + 1, none⟩) 32 (c - 1)) w := fun w => sl_lh g o 65 c 1 33 (by decide) (by omega) (by omega) 1 33 rfl rfl w
    have c2 : ∀ w, (Instr.sliceAt 24 (.slice (some ⟨g, o, none⟩) 65 c) (some (.int .i64 33)) none none).run Tryd.prog w = .ok (.slice (some ⟨g, o + 33, none⟩) 32 (c - 33)) w := fun w => sl_l g o 65 c 33 (by decide) (by omega) 33 rfl w
    have a1 := fun (A : Option Addr) (c : Nat) (w : World) => arr_at Tryd.underlying23 A 32 c (Nat.le_refl _) w
    have a2 := fun (A : Option Addr) (c : Nat) (w : World) => arr_at Tryd.underlying31 A 32 c (Nat.le_refl _) w
    have bl := bldLeaf (partL l 1) (partL l 33) HP1.out HP2.out
    have HLL : Hid ((partL l 1 ++ partL l 33).length = 64) := by show _ = _; rw [List.length_append, HP1.out, HP2.out]
    have HX := Lib.hid hX
    have st1 : ∀ n, stA 33 (X.drewN n) (.pointer (some ⟨w.heap.size, 0, none⟩)) (.agg (bA (partL l 1 ++ partL l 33))) = .ok .skip ((X.drewN n).setRow w.heap.size (bA (partL l 1 ++ partL l 33))) := fun n =>
      stA_row (w := X.drewN n) (z := bA z64) HR0.out (by rw [bA_size, HLL.out]; exact infoLeaf) (by rw [bA_size, bA_size, HLL.out]; rfl) (bA_one _)
    clear hk hA hb0 hX hlen
    go_enter Tryd.func9, Tryd.ntmps9
    go_wp2_with fail
    rw [← HX.out]
    refine HK.out.mono ?_
    rintro e w2 ⟨rfl, rfl⟩
    go_wp2_with fail
    refine wp_region_drawn_tail 9 (by kernel_rfl) (by kernel_rfl) ?_
    simp only [List.take_succ_cons, List.take_zero, List.drop_succ_cons, List.drop_zero]
    repeat (go_big_quiet_step (fail))
    refine wpQuiet_nil ?_
    rintro _ ⟨nq, rfl⟩
    go_wp2_with fail
    refine bodyPost_ret (v := .tuple #[.agg (bA (partL l 1 ++ partL l 33)), .bool true]) ?_ rfl ⟨rfl, ?_⟩
    · exact results_row_tmp Tryd.results9 _ _ w.heap.size _ _ rfl rfl (varLeaf (setRow_heap (X.drewN nq) w.heap.size _ (bA (partL l 1 ++ partL l 33)) 33 _ HR0.out) HLL.out)
    · exact below_setRow (below_drewN HB0.out nq) (Nat.le_refl _) _
  · obtain ⟨K, hK⟩ : ∃ K, K = kindL l := ⟨_, rfl⟩
    rw [if_neg hk, decide_eq_false hk]
    rw [← hK] at HK hk
    have d0 : (K != 0) = true := by rw [bne_iff_ne]; exact hk
    have z := bldLeaf_none
    have st1 := fun w => stA_new (t := 33) w (bA z64) (bA z64) (by rw [bA_size]; exact infoLeaf) (by rw [bA_size]) (bA_one _)
    clear hK hk hA hb0
    go_enter Tryd.func9, Tryd.ntmps9
    go_wp2_with fail
    refine HK.out.mono ?_
    rintro e w2 ⟨rfl, rfl⟩
    go_wp2_with fail
    refine bodyPost_ret (v := .tuple #[.agg (bA z64), .bool false]) ?_ rfl ⟨rfl, HB0.out⟩
    exact results_row_tmp Tryd.results9 _ _ w.heap.size _ _ rfl rfl (varLeaf HR0.out rfl)
end Go.Proofs.YtffgeoeoodogiaaDoor
