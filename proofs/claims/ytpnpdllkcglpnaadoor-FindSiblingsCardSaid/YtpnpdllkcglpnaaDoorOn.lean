/- The walk of FindSiblings over contracts (by program: gen-tpl8-laws.py). -/
import Derived.Test.YtpnpdllkcglpnaaDoorOk
namespace Go.Proofs.YtpnpdllkcglpnaaDoor
open Go.RowKit

set_option maxHeartbeats 16000000 in
set_option maxRecDepth 100000 in
theorem siblings_in {M : World → Int → Tv → Prop} (nd : NdV M) (fv : FnV M) (n : Int) (A : Option Addr) (c : Nat) (es : List En) (k : List UInt8) (hk : k.length = 32) (W : World) (hA : EA W A es) (hl : es.length ≤ 12) (hvl : ∀ e ∈ es, e.v.length ≤ 1000) (hf : fewK (es.map En.ent) = true) (hvx : Vars W) (h0 : 0 ≤ n) (h1 : n ≤ 256) :
    Calls Tryd.prog 5 #[.int .i64 n, .slice A es.length c, .agg (bA k)] W (Aye W) := by
  obtain ⟨X, hX⟩ : ∃ X, X = W.alloc (.cells (bA k) 24) := ⟨_, rfl⟩
  have hb0 : Below W.heap.size W X := by rw [hX]; exact (Below.refl _ _).alloc (Nat.le_refl _) _
  have HR0 : Hid (RowB X W.heap.size 24 k) := by show RowB _ _ _ _; rw [hX]; exact RowB.alloc W k _
  have HX := Lib.hid hX
  have HB0 := Lib.hid hb0
  have HT := Lib.hid (tree_in nd n A c es X (hA.below hb0) hl hvl hf (hvx.below hb0) h0 h1)
  have HVE : Hid (∀ e ∈ ofE es, e.v.length ≤ 1000) := fun e he => hvl e (ofE_mem he)
  have HLE : Hid ((ofE es).length ≤ 12) := Nat.le_trans (ofE_len es) hl
  clear hA hvl hf hvx hX hb0
  go_enter Tryd.func5, Tryd.ntmps5
  go_wp2_with fail
  rw [← HX.out]
  clear HX
  refine HT.out.mono ?_
  rintro _ w2 ⟨A2, c2, T, rfl, hc2, hI, hF⟩
  have HI := Lib.hid hI
  have HF2 := Lib.hid hF
  have HC2 := Lib.hid hc2
  obtain ⟨O, hO⟩ : ∃ O, O = ofE es := ⟨_, rfl⟩
  rw [← hO] at HI HF2 HVE HLE HC2 ⊢
  clear hc2 hI hF HT hO
  have HH := Lib.hid (hash_in n w2 h0 h1)
  go_wp2_with fail
  refine HH.out.mono ?_
  rintro _ w3 ⟨b, rfl, hb, hH, hB⟩
  have HF3 := Lib.hid (HF2.out.below nd hB)
  have HH3 := Lib.hid hH
  have HN3 := Lib.hid (Nat.le_trans HF2.out.bel.size hb)
  have lk := (HR0.out.below HF3.out.bel).ldKey hk
  clear hb hH hB HH HF2
  have HC := Lib.hid (fv.siblings w3 n _ T k HF3.out.ms HI.out hk)
  go_wp2_with fail
  refine HC.out.mono ?_
  rintro _ w4 ⟨A4, c4, rfl, hP, hB⟩
  have HF4 := Lib.hid (HF3.out.below nd hB)
  have HH4 := Lib.hid (HH3.out.keep (Keep.of_below (L := fun _ => False) hB) fun h => h)
  have HP4 := Lib.hid hP
  clear hP hB HC HF3 HH3 lk
  have lk := (HR0.out.below HF4.out.bel).ldKey hk
  have HC := Lib.hid (end8_c A2 c2 O k w4 HF4.out.ea (by have := HLE.out; omega) hk HI.out.sep)
  go_wp2_with fail
  refine HC.out.mono ?_
  rintro _ w5 ⟨A5, c5, D, rfl, _, hj, h1D, hD, hB⟩
  have HDK : Hid (∀ j, (dE O k j).length = (dK (O.map En.ent) k j).length) := fun j => by rw [← dE_ent, List.length_map]
  have hdep : T.dep k 0 = D := dep_eq HI.out.sep (HI.out.at k) (fun j h => by rw [← HDK.out]; exact hj j h) (by rw [← HDK.out]; exact h1D)
  obtain ⟨S, hS⟩ : ∃ S, S = T.sibs k 0 := ⟨_, rfl⟩
  have HSL : Hid (S.length = D) := by
    have := sibs_len k T 0
    show _ = _
    rw [hS, ← hdep]
    omega
  rw [← hS] at HP4 ⊢
  have HSS := Lib.hid hS
  have HF5 := Lib.hid (HF4.out.below nd hB)
  have HH5 := Lib.hid (HH4.out.keep (Keep.of_below (L := fun _ => False) hB) fun h => h)
  have HP5 := Lib.hid (HP4.out.below hB)
  rw [HSL.out]
  have HLD : Hid (S.length = D) := HSL
  have dd : ((D : Int) != (D : Int)) = false := by simp
  have hD0 : D ≤ 256 := hD
  clear hj h1D hD hB HC HF4 HH4 HP4 lk hdep hS
  go_wp2_with fail
  go_loopg [14, 15, 16, 48] D (fun gg _ _ _ i wr => ∃ (m c' : Nat), i = .int .i64 (m : Int) ∧ m ≤ D ∧ D - m = gg ∧ Fs M X n A2 O T wr ∧ Hs wr b n c' ∧ c' ≤ m ∧ PA wr A4 S)
  case atStart => exact ⟨0, 0, rfl, by omega, by omega, HF5.out, HH5.out, Nat.le_refl _, HP5.out⟩
  case round =>
    obtain ⟨m, c', rfl, hm, rfl, hF, hH, hc', hP⟩ := hrel
    have HF6 := Lib.hid hF
    have HH6 := Lib.hid hH
    have HP6 := Lib.hid hP
    have HC6 := Lib.hid hc'
    clear hF hH hc' HF5 HH5 HP5
    by_cases hlt : m < D
    · have hd : decide (m < D) = true := decide_eq_true hlt
      obtain ⟨x, hx⟩ : ∃ x, S[m]? = some x := ⟨_, List.getElem?_eq_getElem (by rw [HLD.out]; exact hlt)⟩
      obtain ⟨g, o, rfl, hcell⟩ := hP m x hx
      have hxs : (T.sibs k 0)[m]? = some x := by rw [← HSS.out]; exact hx
      have HB := Lib.hid (sib_both HI.out.sep (HI.out.at k) hxs n)
      have HMX : Hid (∀ {w : World}, M w n T → M w n x) := fun h => ms_sibs nd k T 0 h x (List.mem_of_getElem? hxs)
      have p0 : (0 : Int) ≤ (m : Int) := by omega
      have p1 : (m : Int) < (D : Int) := by omega
      have pm : (m : Int) ≤ 256 := by omega
      have lk := (HR0.out.below HF6.out.bel).ldKey hk
      have HC := Lib.hid (sibling8_c A2 c2 O k m wr HF6.out.ea (by have := HLE.out; omega) hk HB.out.1)
      clear hx hxs hP
      go_wp2_with fail
      refine HC.out.mono ?_
      rintro _ w7 ⟨A7, c7, rfl, hE, hB⟩
      have HF7 := Lib.hid (HF6.out.below nd hB)
      have HH7 := Lib.hid (HH6.out.keep (Keep.of_below (L := fun _ => False) hB) fun h => h)
      have HP7 := Lib.hid (HP6.out.below hB)
      have HE7 := Lib.hid hE
      obtain ⟨V, hV⟩ : ∃ V, V = sibE O k m := ⟨_, rfl⟩
      have HVV : Hid (V.length ≤ 12 ∧ (∀ e ∈ V, e.v.length ≤ 1000) ∧ lenT x.tr = V.length ∧ digT n x.tr = rootK (256 - m) n (V.map En.ent) (m + 1)) := by
        refine ⟨?_, ?_, ?_, ?_⟩
        · rw [hV]; exact Nat.le_trans (Nat.le_trans (partE_len _ _ _) (dE_len _ _ _)) HLE.out
        · rw [hV]; exact fun e he => HVE.out e (dE_mem (partE_mem he))
        · rw [HB.out.2.1, hV, ← sibE_ent, List.length_map]
        · rw [HB.out.2.2, hV, sibE_ent]
      rw [← hV] at HE7 ⊢
      clear hE hB HC HF6 HH6 HP6 lk hV hcell
      have HC := Lib.hid (nd.len w7 n x (HMX.out HF7.out.ms) (by rw [HVV.out.2.2.1]; have := HVV.out.1; omega))
      rw [HVV.out.2.2.1] at HC
      go_wp2_with fail
      refine HC.out.mono ?_
      rintro _ w8 ⟨rfl, hB⟩
      have HF8 := Lib.hid (HF7.out.below nd hB)
      have HH8 := Lib.hid (HH7.out.keep (Keep.of_below (L := fun _ => False) hB) fun h => h)
      have HP8 := Lib.hid (HP7.out.below hB)
      have HE8 := Lib.hid (HE7.out.below hB)
      have ql : ((V.length : Int) != (V.length : Int)) = false := by simp
      obtain ⟨gd, hg⟩ : ∃ g, g = digT n x.tr := ⟨_, rfl⟩
      have hgl : gd.length = 32 := by rw [hg]; exact digT_len _ _
      have HC := Lib.hid (nd.digest w8 b n c' x HH8.out (by have := HC6.out; omega) HF8.out.vars (HMX.out HF8.out.ms))
      have HGR : Hid (rootK (256 - m) n (V.map En.ent) ((m : Int) + 1) = gd) := by show _ = _; rw [hg]; exact HVV.out.2.2.2.symm
      rw [← hg] at HC
      clear hB HF7 HH7 HP7 HE7 hg
      go_wp2_with fail
      refine HC.out.mono ?_
      rintro _ w9 ⟨m9, rfl, hm9, _, hH9, hK⟩
      have HE9 := Lib.hid (HH8.out.ea HE8.out hK)
      have HF9 := Lib.hid (HF8.out.hs nd HH8.out HN3.out hK)
      have HP9 := Lib.hid (HH8.out.pa HP8.out (fun T' hT' => val_ptr nd (ms_sibs nd k T 0 HF8.out.ms T' (by rw [← HSS.out]; exact hT'))) hK)
      have HH9 := Lib.hid hH9
      have HC9 : Hid (m9 ≤ m + 1) := by show _ ≤ _; have := HC6.out; omega
      have HC := Lib.hid (root7_c n (256 - m) A7 c7 V ((m : Int) + 1) w9 HE9.out (by have := HVV.out.1; omega) HVV.out.2.1 (.inr ⟨by omega, by omega, by omega⟩))
      rw [HGR.out] at HC
      have qg : ∀ x y w, eqA .neq 49 x y w (.agg (bA gd)) (.agg (bA gd)) = .ok (.value (.bool false)) w := fun x y w => by rw [neDig gd gd hgl hgl, decide_eq_true rfl]; rfl
      clear hK hm9 hH9 HF8 HH8 HP8 HE8 HC6
      go_wp2_with fail
      refine HC.out.mono ?_
      rintro _ wa ⟨rfl, hB⟩
      have HFa := Lib.hid (HF9.out.below nd hB)
      have HHa := Lib.hid (HH9.out.keep (Keep.of_below (L := fun _ => False) hB) fun h => h)
      have HPa := Lib.hid (HP9.out.below hB)
      clear hB HC HF9 HE9 HH9 HP9
      go_wp2_with fail
      go_roundg (D - (m + 1))
      case measure => omega
      case rel => exact ⟨m + 1, m9, by go_num, by omega, rfl, HFa.out, HHa.out, HC9.out, HPa.out⟩
    · obtain rfl : m = D := by omega
      have hd : decide (m < m) = false := decide_eq_false (by omega)
      have HAL := Lib.hid (alive8_c nd fv wr HF6.out.vars)
      clear hP
      go_wp2_with fail
      refine HAL.out.mono ?_
      rintro _ w7 ⟨rfl, hB⟩
      have HF7 := Lib.hid (HF6.out.below nd hB)
      clear hB HAL HF6
      go_wp2_with fail
      go_ret
      exact ⟨rfl, HB0.out.trans (HF7.out.bel.mono HB0.out.size)⟩
set_option maxHeartbeats 4000000 in
set_option maxRecDepth 100000 in
/-- Other bits, or entries that are not few: alive. -/
theorem siblings_out {M : World → Int → Tv → Prop} (nd : NdV M) (fv : FnV M) (n : Int) (A : Option Addr) (c : Nat) (es : List En) (k : List UInt8) (W : World) (hA : EA W A es) (hvx : Vars W) (h : (n < 0 ∨ 256 < n) ∨ fewK (es.map En.ent) = false) :
    Calls Tryd.prog 5 #[.int .i64 n, .slice A es.length c, .agg (bA k)] W (Aye W) := by
  obtain ⟨X, hX⟩ : ∃ X, X = W.alloc (.cells (bA k) 24) := ⟨_, rfl⟩
  have hb0 : Below W.heap.size W X := by rw [hX]; exact (Below.refl _ _).alloc (Nat.le_refl _) _
  have HX := Lib.hid hX
  have HB0 := Lib.hid hb0
  have HVX := Lib.hid (hvx.below hb0)
  have HT := Lib.hid (tree_out n A c es X (hA.below hb0) h)
  have HAL := Lib.hid (fun w h => alive8_c nd fv w h)
  clear hA hvx h hX hb0
  go_enter Tryd.func5, Tryd.ntmps5
  go_wp2_with fail
  rw [← HX.out]
  clear HX
  refine HT.out.mono ?_
  rintro _ w2 ⟨rfl, hB⟩
  have HB := Lib.hid hB
  clear hB HT
  go_wp2_with fail
  refine (HAL.out w2 (HVX.out.below HB.out)).mono ?_
  rintro _ w3 ⟨rfl, hB3⟩
  have HB3 := Lib.hid (HB.out.trans (hB3.mono HB.out.size))
  clear hB3
  go_wp2_with fail
  go_ret
  exact ⟨rfl, HB0.out.trans (HB3.out.mono HB0.out.size)⟩
theorem siblings_w {M : World → Int → Tv → Prop} (nd : NdV M) (fv : FnV M) (n : Int) (A : Option Addr) (c : Nat) (es : List En) (k : List UInt8) (hk : k.length = 32) (W : World) (hA : EA W A es) (hvx : Vars W) :
    Calls Tryd.prog 5 #[.int .i64 n, .slice A es.length c, .agg (bA k)] W (Aye W) := by
  rcases Classical.em ((n < 0 ∨ 256 < n) ∨ fewK (es.map En.ent) = false) with h | h
  · exact siblings_out nd fv n A c es k W hA hvx h
  · have hf : fewK (es.map En.ent) = true := by
      cases hq : fewK (es.map En.ent) with
      | true => rfl
      | false => exact absurd (.inr hq) h
    have hl := few_len hf
    rw [List.length_map] at hl
    exact siblings_in nd fv n A c es k hk W hA hl (fun e he => Nat.le_trans (few_val hf e.ent (List.mem_map.2 ⟨e, he, rfl⟩)) (by decide)) hf hvx (by omega) (by omega)
end Go.Proofs.YtpnpdllkcglpnaaDoor
