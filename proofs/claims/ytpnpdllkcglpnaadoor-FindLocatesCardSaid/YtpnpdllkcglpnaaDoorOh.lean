/- The walk of FindLocates over contracts (by program: gen-tpl8-laws.py). -/
import Derived.Test.YtpnpdllkcglpnaaDoorOg
namespace Go.Proofs.YtpnpdllkcglpnaaDoor
open Go.RowKit

set_option maxHeartbeats 16000000 in
set_option maxRecDepth 100000 in
theorem locates_in {M : World → Int → Tv → Prop} (nd : NdV M) (fv : FnV M) (n : Int) (A : Option Addr) (c : Nat) (es : List En) (k : List UInt8) (hk : k.length = 32) (W : World) (hA : EA W A es) (hl : es.length ≤ 12) (hvl : ∀ e ∈ es, e.v.length ≤ 1000) (hf : fewK (es.map En.ent) = true) (hvx : Vars W) (h0 : 0 ≤ n) (h1 : n ≤ 256) :
    Calls Tryd.prog 3 #[.int .i64 n, .slice A es.length c, .agg (bA k)] W (Aye W) := by
  obtain ⟨X, hX⟩ : ∃ X, X = W.alloc (.cells (bA k) 24) := ⟨_, rfl⟩
  have hb0 : Below W.heap.size W X := by rw [hX]; exact (Below.refl _ _).alloc (Nat.le_refl _) _
  have HR0 : Hid (RowB X W.heap.size 24 k) := by show RowB _ _ _ _; rw [hX]; exact RowB.alloc W k _
  have HX := Lib.hid hX
  have HB0 := Lib.hid hb0
  have HT := Lib.hid (tree_in nd n A c es X (hA.below hb0) hl hvl hf (hvx.below hb0) h0 h1)
  have HVE : Hid (∀ e ∈ ofE es, e.v.length ≤ 1000) := fun e he => hvl e (ofE_mem he)
  have HLE : Hid ((ofE es).length ≤ 12) := Nat.le_trans (ofE_len es) hl
  clear hA hvl hf hvx hX hb0
  go_enter Tryd.func3, Tryd.ntmps3
  go_wp2_with fail
  rw [← HX.out]
  clear HX
  refine HT.out.mono ?_
  rintro _ w2 ⟨A2, c2, T, rfl, hc2, hI, hF⟩
  have HI := Lib.hid hI
  have HF2 := Lib.hid hF
  have HC2 := Lib.hid hc2
  obtain ⟨O, hO⟩ : ∃ O, O = ofE es := ⟨_, rfl⟩
  rw [← hO] at HI HF2 HVE HLE HC2 ⊢
  clear hc2 hI hF HT hO
  have lk := (HR0.out.below HF2.out.bel).ldKey hk
  go_wp2_with fail
  have HC := Lib.hid (fv.locate w2 n _ T k HF2.out.ms HI.out hk)
  refine HC.out.mono ?_
  rintro _ w3 ⟨rfl, hB⟩
  have HF3 := Lib.hid (HF2.out.below nd hB)
  clear hB HC HF2 lk
  have lk := (HR0.out.below HF3.out.bel).ldKey hk
  go_wp2_with fail
  have hend := end8_c A2 c2 O k w3 HF3.out.ea (by have := HLE.out; omega) hk HI.out.sep
  have HC := Lib.hid hend
  clear hend lk
  refine HC.out.mono ?_
  rintro _ w4 ⟨A4, c4, D, rfl, hE4, hj, h1D, hD, hB⟩
  have HDK : Hid (∀ j, (dE O k j).length = (dK (O.map En.ent) k j).length) := fun j => by rw [← dE_ent, List.length_map]
  have HDEP : Hid (T.dep k 0 = D) := dep_eq HI.out.sep (HI.out.at k) (fun j h => by rw [← HDK.out]; exact hj j h) (by rw [← HDK.out]; exact h1D)
  have HF4 := Lib.hid (HF3.out.below nd hB)
  have HE4 := Lib.hid hE4
  have HD1 := Lib.hid h1D
  have HD := Lib.hid hD
  clear hE4 hj h1D hD hB HC HF3
  have HTF : Hid (At (O.map En.ent) k D (T.fin k 0)) := by
    have := (At.fin HI.out.sep T 0 (HI.out.at k)).1
    rw [HDEP.out] at this
    exact this
  have HLEN : Hid (lenT (T.fin k 0).tr = (dE O k D).length) := by
    show _ = _
    rw [HDK.out]
    exact (HTF.out.both HI.out.sep 0).1
  rw [HDEP.out]
  have dd : ((D : Int) != (D : Int)) = false := by simp
  go_wp2_with fail
  have HC := Lib.hid (nd.len w4 n (T.fin k 0) (ms_fin nd k HF4.out.ms) (by rw [HLEN.out]; have := HD1.out; omega))
  rw [HLEN.out] at HC
  refine HC.out.mono ?_
  rintro _ w5 ⟨rfl, hB⟩
  have HF5 := Lib.hid (HF4.out.below nd hB)
  have HE5 := Lib.hid (HE4.out.below hB)
  have HAL := Lib.hid (alive8_c nd fv w5 HF5.out.vars)
  clear hB HC HF4 HE4 dd
  match hm : dE O k D, HD1.out with
  | [], _ =>
    have hnil : T.fin k 0 = .nil := by
      have := HTF.out.nil (by rw [← dE_ent, hm]; rfl)
      cases hT : T.fin k 0 with
      | nil => rfl
      | leaf v e => rw [hT] at this; cases this
      | inner v a b => rw [hT] at this; cases this
    rw [hnil]
    clear hm hnil HLEN HTF HE5
    rw [show (Tv.nil).val = .pointer none from rfl, show (([] : List En).length : Int) = 0 from rfl, show ([] : List En).length = 0 from rfl]
    go_wp2_with fail
    refine HAL.out.mono ?_
    rintro _ w6 ⟨rfl, hB⟩
    have HF6 := Lib.hid (HF5.out.below nd hB)
    clear hB HAL HF5
    go_wp2_with fail
    go_ret
    exact ⟨rfl, HB0.out.trans (HF6.out.bel.mono HB0.out.size)⟩
  | [e], _ =>
    have htr : (T.fin k 0).tr = .leaf e.ent := HTF.out.one (by rw [← dE_ent, hm]; rfl)
    have HTR := Lib.hid htr
    have HE6 : Hid (EA w5 A4 [e]) := by rw [← hm]; exact HE5.out
    have HIN : Hid (e ∈ O) := dE_mem (k := k) (i := D) (by rw [hm]; simp)
    obtain ⟨pf, hpf⟩ : ∃ p, p = (T.fin k 0).val := ⟨_, rfl⟩
    rw [← hpf]
    have HPF := Lib.hid hpf
    clear hm htr HLEN HTF HE5 hpf
    rw [show (([e] : List En).length : Int) = 1 from rfl, show ([e] : List En).length = 1 from rfl]
    go_wp2_with fail
    refine HAL.out.mono ?_
    rintro _ w6 ⟨rfl, hB⟩
    have HF6 := Lib.hid (HF5.out.below nd hB)
    have HE7 := Lib.hid (HE6.out.below hB)
    clear hB HAL HF5 HE6
    go_wp2_with fail
    have HC := Lib.hid (nd.kind w6 n (T.fin k 0) (ms_fin nd k HF6.out.ms))
    rw [← HPF.out, HTR.out] at HC
    refine HC.out.mono ?_
    rintro _ w7 ⟨rfl, hB⟩
    have HF7 := Lib.hid (HF6.out.below nd hB)
    have HE8 := Lib.hid (HE7.out.below hB)
    clear hB HC HF6 HE7
    rw [show kindT (.leaf e.ent) = 1 from rfl]
    go_wp2_with fail
    have HC := Lib.hid (nd.entry w7 n (T.fin k 0) (ms_fin nd k HF7.out.ms))
    rw [← HPF.out, HTR.out] at HC
    refine HC.out.mono ?_
    rintro _ w8 ⟨A8, c8, rfl, hN, hB⟩
    rw [show entT (.leaf e.ent) = e.ent from rfl] at hN ⊢
    have hkl : e.k.length = 32 := (HE8.out 0 e rfl).1.key
    obtain ⟨e8, he8⟩ : ∃ x : En, x = ⟨e.k, A8, e.v, c8⟩ := ⟨_, rfl⟩
    have hok8 : EnOk w8 e8 := by rw [he8]; exact ⟨hkl, hN.1, NewB.ba (l := e.v) hN⟩
    have HEN : Hid (e8.ent = e.ent ∧ e8.v.length ≤ 1000000 ∧ e.v.length ≤ 1000000) := by
      have := HVE.out e HIN.out
      rw [he8]
      exact ⟨rfl, by show e.v.length ≤ 1000000; omega, by omega⟩
    have bs := bsE_one e8 hok8.key
    rw [show (⟨e.ent.k, A8, e.ent.v, c8⟩ : En) = e8 from he8.symm]
    have HF8 := Lib.hid (HF7.out.below nd hB)
    have HE9 := Lib.hid (HE8.out.below hB)
    have hbx : Below w8.heap.size w8 (w8.alloc (.cells (enC e8).toArray 37)) := (Below.refl _ _).alloc (Nat.le_refl _) _
    have hex : EA (w8.alloc (.cells (enC e8).toArray 37)) (some ⟨w8.heap.size, 0, none⟩) [e8] := fun i x hi => by
      cases i with
      | zero =>
        cases hi
        exact ⟨hok8.below hbx, w8.heap.size, 0, rfl, by rw [Nat.zero_mul]; exact ent_made w8 e8 _⟩
      | succ i => simp at hi
    have HS := Lib.hid (same7_c (some ⟨w8.heap.size, 0, none⟩) A4 1 c4 [e8] [e] _ hex (HE9.out.below hbx) (show 1 ≤ 100000 by decide) (show 1 ≤ 100000 by decide) (fun x hx => by rw [List.mem_singleton.1 hx]; exact HEN.out.2.1) (fun x hx => by rw [List.mem_singleton.1 hx]; exact HEN.out.2.2))
    rw [decide_eq_true (show [e8].map En.ent = [e].map En.ent by simp [HEN.out.1])] at HS
    have HF9 := Lib.hid (HF8.out.below nd hbx)
    clear hN hB hkl he8 hok8 hbx hex HF7 HE8 HF8
    go_wp2_with fail
    refine HS.out.mono ?_
    rintro _ w9 ⟨rfl, hB⟩
    have HFa := Lib.hid (HF9.out.below nd hB)
    clear hB HS HF9
    go_wp2_with fail
    go_ret
    exact ⟨rfl, HB0.out.trans (HFa.out.bel.mono HB0.out.size)⟩
set_option maxHeartbeats 4000000 in
set_option maxRecDepth 100000 in
/-- Other bits, or entries that are not few: alive. -/
theorem locates_out {M : World → Int → Tv → Prop} (nd : NdV M) (fv : FnV M) (n : Int) (A : Option Addr) (c : Nat) (es : List En) (k : List UInt8) (W : World) (hA : EA W A es) (hvx : Vars W) (h : (n < 0 ∨ 256 < n) ∨ fewK (es.map En.ent) = false) :
    Calls Tryd.prog 3 #[.int .i64 n, .slice A es.length c, .agg (bA k)] W (Aye W) := by
  obtain ⟨X, hX⟩ : ∃ X, X = W.alloc (.cells (bA k) 24) := ⟨_, rfl⟩
  have hb0 : Below W.heap.size W X := by rw [hX]; exact (Below.refl _ _).alloc (Nat.le_refl _) _
  have HX := Lib.hid hX
  have HB0 := Lib.hid hb0
  have HVX := Lib.hid (hvx.below hb0)
  have HT := Lib.hid (tree_out n A c es X (hA.below hb0) h)
  have HAL := Lib.hid (fun w h => alive8_c nd fv w h)
  clear hA hvx h hX hb0
  go_enter Tryd.func3, Tryd.ntmps3
  go_wp2_with fail
  rw [← HX.out]
  clear HX
  refine HT.out.mono ?_
  rintro _ w2 ⟨rfl, hB⟩
  have HB := Lib.hid hB
  clear hB HT
  go_wp2_with fail
  refine (HAL.out w2 (HVX.out.below HB.out)).mono ?_
  rintro _ w3 ⟨rfl, hB3⟩
  have HB3 := Lib.hid (HB.out.trans (hB3.mono HB.out.size))
  clear hB3
  go_wp2_with fail
  go_ret
  exact ⟨rfl, HB0.out.trans (HB3.out.mono HB0.out.size)⟩
theorem locates_w {M : World → Int → Tv → Prop} (nd : NdV M) (fv : FnV M) (n : Int) (A : Option Addr) (c : Nat) (es : List En) (k : List UInt8) (hk : k.length = 32) (W : World) (hA : EA W A es) (hvx : Vars W) :
    Calls Tryd.prog 3 #[.int .i64 n, .slice A es.length c, .agg (bA k)] W (Aye W) := by
  rcases Classical.em ((n < 0 ∨ 256 < n) ∨ fewK (es.map En.ent) = false) with h | h
  · exact locates_out nd fv n A c es k W hA hvx h
  · have hf : fewK (es.map En.ent) = true := by
      cases hq : fewK (es.map En.ent) with
      | true => rfl
      | false => exact absurd (.inr hq) h
    have hl := few_len hf
    rw [List.length_map] at hl
    exact locates_in nd fv n A c es k hk W hA hl (fun e he => Nat.le_trans (few_val hf e.ent (List.mem_map.2 ⟨e, he, rfl⟩)) (by decide)) hf hvx (by omega) (by omega)
end Go.Proofs.YtpnpdllkcglpnaaDoor
