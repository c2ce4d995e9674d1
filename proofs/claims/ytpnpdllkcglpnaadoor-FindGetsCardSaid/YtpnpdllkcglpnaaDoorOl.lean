/- The walk of FindGets over contracts (by program: gen-tpl8-laws.py). -/
import Derived.Test.YtpnpdllkcglpnaaDoorOk
namespace Go.Proofs.YtpnpdllkcglpnaaDoor
open Go.RowKit

set_option maxHeartbeats 16000000 in
set_option maxRecDepth 100000 in
theorem gets_in {M : World → Int → Tv → Prop} (nd : NdV M) (fv : FnV M) (n : Int) (A : Option Addr) (c : Nat) (es : List En) (k : List UInt8) (hk : k.length = 32) (W : World) (hA : EA W A es) (hl : es.length ≤ 12) (hvl : ∀ e ∈ es, e.v.length ≤ 1000) (hf : fewK (es.map En.ent) = true) (hvx : Vars W) (h0 : 0 ≤ n) (h1 : n ≤ 256) :
    Calls Tryd.prog 4 #[.int .i64 n, .slice A es.length c, .agg (bA k)] W (Aye W) := by
  obtain ⟨X, hX⟩ : ∃ X, X = W.alloc (.cells (bA k) 24) := ⟨_, rfl⟩
  have hb0 : Below W.heap.size W X := by rw [hX]; exact (Below.refl _ _).alloc (Nat.le_refl _) _
  have HR0 : Hid (RowB X W.heap.size 24 k) := by show RowB _ _ _ _; rw [hX]; exact RowB.alloc W k _
  have HX := Lib.hid hX
  have HB0 := Lib.hid hb0
  have HT := Lib.hid (tree_in nd n A c es X (hA.below hb0) hl hvl hf (hvx.below hb0) h0 h1)
  have HVE : Hid (∀ e ∈ ofE es, e.v.length ≤ 1000) := fun e he => hvl e (ofE_mem he)
  have HLE : Hid ((ofE es).length ≤ 12) := Nat.le_trans (ofE_len es) hl
  clear hA hvl hf hvx hX hb0
  go_enter Tryd.func4, Tryd.ntmps4
  go_wp2_with fail
  rw [← HX.out]
  clear HX
  refine HT.out.mono ?_
  rintro _ w2 ⟨A2, c2, T, rfl, hc2, hI, hF⟩
  have HI := Lib.hid hI
  have HF2 := Lib.hid hF
  have HC2 := Lib.hid hc2
  obtain ⟨O, hO⟩ : ∃ O, O = ofE es := ⟨_, rfl⟩
  rw [← hO] at HI HF2 HVE HLE HC2 ⊢
  clear hc2 hI hF HT hO
  have lk := (HR0.out.below HF2.out.bel).ldKey hk
  go_wp2_with fail
  have HC := Lib.hid (fv.get w2 n _ T k HF2.out.ms HI.out hk)
  rw [get_isE HI.out] at HC
  refine HC.out.mono ?_
  rintro _ w3 ⟨A3, c3, rfl, hN, hB⟩
  have HF3 := Lib.hid (HF2.out.below nd hB)
  have HN3 := Lib.hid (NewB.ba hN)
  clear hN hB HC HF2 lk
  have lk := (HR0.out.below HF3.out.bel).ldKey hk
  have HG := Lib.hid (get7_c A2 c2 O k w3 HF3.out.ea (by have := HLE.out; omega) hk)
  cases hq : getE O k with
  | none =>
    rw [hq] at HG HN3
    rw [show (valO (Option.map En.ent none)).length = 0 from rfl, show (Option.map En.ent none).isSome = false from rfl]
    clear hq
    go_wp2_with fail
    refine HG.out.mono ?_
    rintro _ w4 ⟨rfl, hB⟩
    have HF4 := Lib.hid (HF3.out.below nd hB)
    have HS4 : Hid (∀ w, Calls Tryd.prog 19 #[.slice A3 0 c3, .slice none 0 0] w fun e w' => e = .returned (.bool true) ∧ Below w.heap.size w w') := fun w => same_yes A3 none c3 0 0 [] w rfl (fun j x hj => by simp at hj) (fun j x hj => by simp at hj) (by decide)
    have HAL := Lib.hid (alive8_c nd fv w4 HF4.out.vars)
    rw [show getVal none = .slice none 0 0 from rfl, show (none : Option En).isSome = false from rfl]
    clear hB HG HF3 lk HN3
    go_wp2_with fail
    refine HAL.out.mono ?_
    rintro _ w5 ⟨rfl, hB⟩
    have HF5 := Lib.hid (HF4.out.below nd hB)
    clear hB HAL HF4
    go_wp2_with fail
    refine (HS4.out w5).mono ?_
    rintro _ w6 ⟨rfl, hB⟩
    have HF6 := Lib.hid (HF5.out.below nd hB)
    clear hB HF5
    go_wp2_with fail
    go_ret
    exact ⟨rfl, HB0.out.trans (HF6.out.bel.mono HB0.out.size)⟩
  | some e =>
    rw [hq] at HG HN3
    have HEM := Lib.hid (getE_mem hq).1
    rw [show (valO (Option.map En.ent (some e))).length = e.v.length from rfl, show (Option.map En.ent (some e)).isSome = true from rfl]
    have HN3 : Hid (BA w3 A3 e.v) := HN3.out
    clear hq
    go_wp2_with fail
    refine HG.out.mono ?_
    rintro _ w4 ⟨rfl, hB⟩
    have HF4 := Lib.hid (HF3.out.below nd hB)
    have HN4 := Lib.hid (HN3.out.below hB)
    have HAL := Lib.hid (alive8_c nd fv w4 HF4.out.vars)
    rw [show getVal (some e) = .slice e.A e.v.length e.c from rfl, show (some e).isSome = true from rfl]
    clear hB HG HF3 lk HN3
    go_wp2_with fail
    refine HAL.out.mono ?_
    rintro _ w5 ⟨rfl, hB⟩
    have HF5 := Lib.hid (HF4.out.below nd hB)
    have HN5 := Lib.hid (HN4.out.below hB)
    have HS := Lib.hid (same_yes A3 e.A c3 e.c _ e.v w5 rfl HN5.out (HF5.out.ea.mem e HEM.out).val (by have := HVE.out e HEM.out; omega))
    clear hB HAL HF4 HN4
    go_wp2_with fail
    refine HS.out.mono ?_
    rintro _ w6 ⟨rfl, hB⟩
    have HF6 := Lib.hid (HF5.out.below nd hB)
    clear hB HF5 HS
    go_wp2_with fail
    go_ret
    exact ⟨rfl, HB0.out.trans (HF6.out.bel.mono HB0.out.size)⟩
set_option maxHeartbeats 4000000 in
set_option maxRecDepth 100000 in
/-- Other bits, or entries that are not few: alive. -/
theorem gets_out {M : World → Int → Tv → Prop} (nd : NdV M) (fv : FnV M) (n : Int) (A : Option Addr) (c : Nat) (es : List En) (k : List UInt8) (W : World) (hA : EA W A es) (hvx : Vars W) (h : (n < 0 ∨ 256 < n) ∨ fewK (es.map En.ent) = false) :
    Calls Tryd.prog 4 #[.int .i64 n, .slice A es.length c, .agg (bA k)] W (Aye W) := by
  obtain ⟨X, hX⟩ : ∃ X, X = W.alloc (.cells (bA k) 24) := ⟨_, rfl⟩
  have hb0 : Below W.heap.size W X := by rw [hX]; exact (Below.refl _ _).alloc (Nat.le_refl _) _
  have HX := Lib.hid hX
  have HB0 := Lib.hid hb0
  have HVX := Lib.hid (hvx.below hb0)
  have HT := Lib.hid (tree_out n A c es X (hA.below hb0) h)
  have HAL := Lib.hid (fun w h => alive8_c nd fv w h)
  clear hA hvx h hX hb0
  go_enter Tryd.func4, Tryd.ntmps4
  go_wp2_with fail
  rw [← HX.out]
  clear HX
  refine HT.out.mono ?_
  rintro _ w2 ⟨rfl, hB⟩
  have HB := Lib.hid hB
  clear hB HT
  go_wp2_with fail
  refine (HAL.out w2 (HVX.out.below HB.out)).mono ?_
  rintro _ w3 ⟨rfl, hB3⟩
  have HB3 := Lib.hid (HB.out.trans (hB3.mono HB.out.size))
  clear hB3
  go_wp2_with fail
  go_ret
  exact ⟨rfl, HB0.out.trans (HB3.out.mono HB0.out.size)⟩
theorem gets_w {M : World → Int → Tv → Prop} (nd : NdV M) (fv : FnV M) (n : Int) (A : Option Addr) (c : Nat) (es : List En) (k : List UInt8) (hk : k.length = 32) (W : World) (hA : EA W A es) (hvx : Vars W) :
    Calls Tryd.prog 4 #[.int .i64 n, .slice A es.length c, .agg (bA k)] W (Aye W) := by
  rcases Classical.em ((n < 0 ∨ 256 < n) ∨ fewK (es.map En.ent) = false) with h | h
  · exact gets_out nd fv n A c es k W hA hvx h
  · have hf : fewK (es.map En.ent) = true := by
      cases hq : fewK (es.map En.ent) with
      | true => rfl
      | false => exact absurd (.inr hq) h
    have hl := few_len hf
    rw [List.length_map] at hl
    exact gets_in nd fv n A c es k hk W hA hl (fun e he => Nat.le_trans (few_val hf e.ent (List.mem_map.2 ⟨e, he, rfl⟩)) (by decide)) hf hvx (by omega) (by omega)
end Go.Proofs.YtpnpdllkcglpnaaDoor
