import Derived.Test.YtkejfdgmdjfdoaaGreatDoorIl
import Derived.Test.YtkejfdgmdjfdoaaGreatDoorS3
import Derived.Test.YtkejfdgmdjfdoaaGreatDoorG7
import Derived.Test.YtkejfdgmdjfdoaaGreatDoorUz
import Derived.Test.YtkejfdgmdjfdoaaGreatDoorCards
import Derived.Test.YtkejfdgmdjfdoaaGreatDoorTie
import Derived.SevenTiedAt
namespace Go.Proofs.YtkejfdgmdjfdoaaGreatDoor
set_option linter.unusedSimpArgs false
set_option linter.unusedVariables false
set_option maxRecDepth 100000
open Go.ChangeShapes Go.WideShapes Go.ChangeAt Go.RowKit
noncomputable def applies13_world (os : Os) : World :=
 let w0 := World.holding Tryz.prog os ⟨#[], #[], []⟩
 let w1 := { w0 with heap := w0.heap.modify 1 fun
   | .cells _ t frozen => .cells (initZ.map fun z => Value.int .u32 z).toArray t frozen
   | o => o }
 let w1 := { w1 with heap := w1.heap.modify 0 fun
   | .cells _ t frozen => .cells #[.iface 222 (.agg #[.pointer (some ⟨6, 44, none⟩)])] t frozen
   | o => o }
 { w1 with heap := w1.heap.modify 2 fun
   | .cells _ t frozen => .cells (constZ.map fun z => Value.int .u32 z).toArray t frozen
   | o => o }
theorem applies13_world_met (os : Os) : laidMetH Tryz.prog Rows.treeAppliesRow.laid ((applies13_world os).forCall (fun _ _ => 0) ⟨#[], #[.int .i64 0, .slice none 0 0, .slice none 0 0], []⟩).memory :=
 laidMetH_of_parts (laidMet_of_run' 8 (by kernel_rfl) (by kernel_rfl)) (by kernel_rfl)
set_option linter.unusedVariables false in
theorem applies13_lifted (os : Os) (started : os.Started) (H : Type) (enc : TypeId × Value → H) :
  ReturnsInHanded {} Tryz.checked os 6 .any (fun w args => (Rows.treeAppliesSpec.pre enc Tryz.prog Tryz.f6 [] false w args ∧ laidMetH Tryz.prog Rows.treeAppliesRow.laid w) ∧ sizedMet enc Tryz.prog Tryz.f6 (OpenSpec.ofChange Rows.treeAppliesSpec) false w args)
   (Rows.treeAppliesSpec.post enc Tryz.prog Tryz.f6 false true false false) := by
 refine returnsInHanded_of_change_and (C := Tryz.checked) (X := fun w _ => laidMetH Tryz.prog Rows.treeAppliesRow.laid w) (fun _ _ _ hh h => h.of_heap hh) own started (by kernel_rfl) Tryz.func6
  (ChangeSpec.witness_at (enc := enc) (C := Tryz.checked) (os := os) (X := fun w _ => laidMetH Tryz.prog Rows.treeAppliesRow.laid w) false (applies13_world os) #[.int .i64 0, .slice none 0 0, .slice none 0 0] 8 rfl (by kernel_rfl) (by kernel_rfl) (by kernel_rfl) (by kernel_rfl) (by kernel_rfl) (applies13_world_met os)) ?_
 intro W base args ds gs before hval0 hW _ _ hL _
 have hval : ∀ (j : Nat) t v, Tryz.f6.params[j]? = some t → args[j]? = some v → Value.okWide Tryz.prog W .any base t v := hval0
 have hW' := hW
 obtain ⟨p, q, hA0, hV0, rfl, hfz, hnd⟩ := hW
 have hA : DataW.TrodAll enc Tryz.prog W 0 (fun _ => true) true Tryz.f6.params.toList args.toList ds p := hA0
 rw [Tryz.params6] at hA hval
 obtain ⟨v0, vs0, d0, ds0, p0, q0, hargs, rfl, rfl, h0, r0⟩ := trodAll_cons hA
 obtain ⟨v1, vs1, d1, ds1, p1, q1, rfl, rfl, rfl, h1, r1⟩ := trodAll_cons r0
 obtain ⟨v2, vs2, d2, ds2, p2, q2, rfl, rfl, rfl, h2, r2⟩ := trodAll_cons r1
 obtain ⟨rfl, rfl, rfl⟩ := trodAll_nil r2
 obtain rfl : args = #[v0, v1, v2] := by cases args; simp_all
 obtain ⟨rfl, rfl⟩ := trodVars_none hV0
 obtain ⟨a0, rfl, rfl, rfl, w0⟩ := open_int Tryz.underlying3 (hval 0 3 v0 rfl rfl) h0
 have hlt1 : ∀ x ∈ p1, x.block < W.heap.size := fun x hx => by simpa using hW'.lt x (by simp [hx])
 obtain ⟨A1, c1, os1, rfl, oa1⟩ := open_ons (hval 1 22 v1 rfl rfl) h1
 have hlt2 : ∀ x ∈ p2, x.block < W.heap.size := fun x hx => by simpa using hW'.lt x (by simp [hx])
 obtain ⟨A2, c2, us2, rfl, ua2, uc2⟩ := open_ups (hval 2 32 v2 rfl rfl) h2
 have hV : Vars W := vars_of hL.1
 have hE : Ft.ErrVar W := errVar13 hL.2 (List.mem_singleton.2 rfl)
 clear hA0 hval0
 simp only [List.append_nil] at hW'
 refine (applies13_w nd_c tr_c a0 A1 c1 os1 A2 c2 us2 W oa1 ua2 uc2 hV hE).mono fun e W' ⟨he, hb⟩ => ?_
 subst he
 exact ⟨_, rfl, _, _, _, [], _, [], hW', trodAll_cons_mk (shut_bool Tryz.underlying4 _) trodAll_mk0, (trodAll_cons_mk (shut_int Tryz.underlying3 w0) (trodAll_cons_mk (Below.trod laidOut (by kernel_rfl) (of_decide_eq_true (by kernel_rfl)) h1 hb hlt1) (trodAll_cons_mk (Below.trod laidOut (by kernel_rfl) (of_decide_eq_true (by kernel_rfl)) h2 hb hlt2) trodAll_mk0))), rfl, hb.frame _, fun h => by cases h⟩
theorem applies13_row : Rows.TreeAppliesSaid :=
 OpenClaim.holds_of_wide 6 Tryz.f6 rfl rfl rfl rfl rfl rfl rfl ⟨rfl, rfl, rfl, rfl, rfl⟩ rfl rfl rfl rfl rfl (by kernel_rfl) Tryz.func6 (by kernel_rfl)
  (of_decide_eq_true (by kernel_rfl)) (by unfold Func.isWrapper; first | (rw [if_pos (by decide +kernel)]; kernel_rfl) | (rw [if_neg (by decide +kernel)]; exact ⟨rfl, rfl⟩))
  (fun os started H enc _ => applies13_lifted os started H enc)
theorem applies13_holds : Rows.TreeAppliesCardSaid :=
 Claim7.holds_tied_plain_at .later [] [.handle, .data, .data] true (true, "c13b3781c3fd7fb9251408ed18c86dacca01c2687ef4063d1f906ce266046729") true
  applies13_row (fun _ h => by cases h) (by kernel_rfl) (fun _ h => by cases h) treeApplies_row_tie rfl ⟨rfl, rfl⟩ (by kernel_rfl) rfl
  (fun f fn hf hfn => by
   obtain rfl : f = 6 := Option.some.inj ((show Tryz.prog.funcNamed "sparsetree/sparsetreelaw13.TreeApplies" = some 6 by kernel_rfl).symm.trans hf) |>.symm
   obtain rfl : fn = Tryz.f6 := (Option.some.inj (Tryz.func6.symm.trans hfn)).symm
   exact ⟨by kernel_rfl, fun j t ht => by
    rw [Tryz.params6] at ht
    have h3 : t = 3 ∨ t = 22 ∨ t = 32 := by
     rcases j with _ | _ | _ | j
     ·left; simpa using ht.symm
     ·right; left; simpa using ht.symm
     ·right; right; simpa using ht.symm
     ·simp at ht
    rcases h3 with rfl | rfl | rfl
    ·exact (show Tryz.prog.wantsStandIn 3 = false by kernel_rfl)
    ·exact (show Tryz.prog.wantsStandIn 22 = false by kernel_rfl)
    ·exact (show Tryz.prog.wantsStandIn 32 = false by kernel_rfl)⟩)
  (by kernel_rfl)
end Go.Proofs.YtkejfdgmdjfdoaaGreatDoor
