/- The statement VerifyClaims of layer 18: for every claim, where the variables errors.errorType, sha.initial and sha.constants hold what the program's text lays, the function returns true, and the arguments read afterwards as they read before. No further condition. -/
import Derived.Test.YtjgdindjimbfeaaGreatDoorTM
import Derived.Test.YtjgdindjimbfeaaGreatDoorTo
import Derived.Test.YtjgdindjimbfeaaGreatDoorSK
import Derived.Test.YtjgdindjimbfeaaGreatDoorVK
import Derived.Test.YtjgdindjimbfeaaGreatDoorUU
import Derived.Test.YtjgdindjimbfeaaGreatDoorCards
import Derived.Test.YtjgdindjimbfeaaGreatDoorTie
import Derived.SevenTiedAt
namespace Go.Proofs.YtjgdindjimbfeaaGreatDoor
open Go.ChangeShapes Go.WideShapes Go.ChangeAt Go.RowKit

/-- A world that meets the condition: the settled one, the listed variables' cells laid. -/
noncomputable def claims18_world (os : Os) : World :=
  let w0 := World.holding Tryz.prog os ⟨#[], #[], []⟩
  let w1 := { w0 with heap := w0.heap.modify 1 fun
      | .cells _ t frozen => .cells (initZ.map fun z => Value.int .u32 z).toArray t frozen
      | o => o }
  let w1 := { w1 with heap := w1.heap.modify 0 fun
      | .cells _ t frozen => .cells #[.iface 186 (.agg #[.pointer (some ⟨3, 38, none⟩)])] t frozen
      | o => o }
  { w1 with heap := w1.heap.modify 2 fun
      | .cells _ t frozen => .cells (constZ.map fun z => Value.int .u32 z).toArray t frozen
      | o => o }
theorem claims18_world_met (os : Os) : laidMetH Tryz.prog Rows.verifyClaimsRow.laid ((claims18_world os).forCall (fun _ _ => 0) ⟨#[], #[.agg #[.slice none 0 0, .slice none 0 0, .bool false]], []⟩).memory :=
  laidMetH_of_parts (laidMet_of_run' 8 (by kernel_rfl) (by kernel_rfl)) (by kernel_rfl)
set_option linter.unusedVariables false in
set_option maxRecDepth 100000 in
theorem claims18_lifted (os : Os) (started : os.Started) (H : Type) (enc : TypeId × Value → H) :
    ReturnsInHanded {} Tryz.checked os 5 .any (fun w args => (Rows.verifyClaimsSpec.pre enc Tryz.prog Tryz.f5 [] false w args ∧ laidMetH Tryz.prog Rows.verifyClaimsRow.laid w) ∧ sizedMet enc Tryz.prog Tryz.f5 (OpenSpec.ofChange Rows.verifyClaimsSpec) false w args)
      (Rows.verifyClaimsSpec.post enc Tryz.prog Tryz.f5 false true false false) := by
  refine returnsInHanded_of_change_and (C := Tryz.checked) (X := fun w _ => laidMetH Tryz.prog Rows.verifyClaimsRow.laid w) (fun _ _ _ hh h => h.of_heap hh) own started (by kernel_rfl) Tryz.func5
    (ChangeSpec.witness_at (enc := enc) (C := Tryz.checked) (os := os) (X := fun w _ => laidMetH Tryz.prog Rows.verifyClaimsRow.laid w) false (claims18_world os) #[.agg #[.slice none 0 0, .slice none 0 0, .bool false]] 8 rfl (by kernel_rfl) (by kernel_rfl) (by kernel_rfl) (by kernel_rfl) (by kernel_rfl) (claims18_world_met os)) ?_
  intro W base args ds gs before hval0 hW _ _ hL _
  have hval : ∀ (j : Nat) t v, Tryz.f5.params[j]? = some t → args[j]? = some v → Value.okWide Tryz.prog W .any base t v := hval0
  have hW' := hW
  obtain ⟨p, q, hA0, hV0, rfl, hfz, hnd⟩ := hW
  have hA : DataW.TrodAll enc Tryz.prog W 0 (fun _ => true) true Tryz.f5.params.toList args.toList ds p := hA0
  rw [Tryz.params5] at hA hval
  obtain ⟨v0, vs0, d0, ds0, p0, q0, hargs, rfl, rfl, h0, r0⟩ := trodAll_cons hA
  obtain ⟨rfl, rfl, rfl⟩ := trodAll_nil r0
  obtain rfl : args = #[v0] := by cases args; simp_all
  obtain ⟨rfl, rfl⟩ := trodVars_none hV0
  have hlt0 : ∀ x ∈ p0, x.block < W.heap.size := fun x hx => by simpa using hW'.lt x (by simp [hx])
  obtain ⟨cl0, A0, B0, ca0, cb0, rfl, ck0⟩ := open_claim (hval 0 24 v0 rfl rfl) h0
  have hV : Vars W := vars_of hL.1
  have hE : Ft.ErrVar W := errVar13 hL.2 (List.mem_singleton.2 rfl)
  clear hA0 hval0
  simp only [List.append_nil] at hW'
  refine (claims18_w ve_c (fun w h1 h2 => alive18_c ve_c co_c w h1 h2) cl0 A0 B0 ca0 cb0 W hV hE).mono fun e W' ⟨he, hb⟩ => ?_
  subst he
  exact ⟨_, rfl, _, _, _, [], _, [], hW', trodAll_cons_mk (shut_bool Tryz.underlying4 _) trodAll_mk0, (trodAll_cons_mk (Below.trod laidOut (by kernel_rfl) (of_decide_eq_true (by kernel_rfl)) h0 hb hlt0) trodAll_mk0), rfl, hb.frame _, fun h => by cases h⟩
theorem claims18_row : Rows.VerifyClaimsSaid :=
  OpenClaim.holds_of_wide 5 Tryz.f5 rfl rfl rfl rfl rfl rfl rfl ⟨rfl, rfl, rfl, rfl, rfl⟩ rfl rfl rfl rfl rfl (by kernel_rfl) Tryz.func5 (by kernel_rfl)
    (of_decide_eq_true (by kernel_rfl)) (by unfold Func.isWrapper; first | (rw [if_pos (by decide +kernel)]; kernel_rfl) | (rw [if_neg (by decide +kernel)]; exact ⟨rfl, rfl⟩))
    (fun os started H enc _ => claims18_lifted os started H enc)
theorem claims18_holds : Rows.VerifyClaimsCardSaid :=
  Claim7.holds_tied_plain_at .later [] [.handle, .data, .data] true (true, "30c1def8ad72d3856bef5a174eb8321e7456481d6621a61b6907f7def60b4fdf") true
    claims18_row (fun _ h => by cases h) (by kernel_rfl) (fun _ h => by cases h) verifyClaims_row_tie rfl ⟨rfl, rfl⟩ (by kernel_rfl) rfl
    (fun f fn hf hfn => by
      obtain rfl : f = 5 := Option.some.inj ((show Tryz.prog.funcNamed "sparsetree/sparsetreelaw18.VerifyClaims" = some 5 by kernel_rfl).symm.trans hf) |>.symm
      obtain rfl : fn = Tryz.f5 := (Option.some.inj (Tryz.func5.symm.trans hfn)).symm
      exact ⟨by kernel_rfl, fun j t ht => by
        rw [Tryz.params5] at ht
        have h3 : t = 24 := by
          rcases j with _ | j
          · simpa using ht.symm
          · simp at ht
        rcases h3 with rfl
        · exact (show Tryz.prog.wantsStandIn 24 = false by kernel_rfl)⟩)
    (by kernel_rfl)
end Go.Proofs.YtjgdindjimbfeaaGreatDoor
