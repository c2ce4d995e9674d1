import Derived.Test.YtjgdindjimbfeaaGreatDoorTJ
import Derived.Test.YtjgdindjimbfeaaGreatDoorVA
import Derived.Test.YtjgdindjimbfeaaGreatDoorTo
import Derived.Test.YtjgdindjimbfeaaGreatDoorTM
import Derived.Test.YtjgdindjimbfeaaGreatDoorAm
import Derived.Test.YtjgdindjimbfeaaGreatDoorMM
import Derived.Test.YtjgdindjimbfeaaGreatDoorMT
import Derived.Test.YtjgdindjimbfeaaGreatDoorMO
namespace Go.Proofs.YtjgdindjimbfeaaGreatDoor
set_option linter.unusedSimpArgs false
set_option linter.unusedVariables false
set_option maxHeartbeats 16000000
set_option maxRecDepth 100000
section
open Go.RowKit
theorem sep_uniq18 : ∀ {l : List Ent}, l.Pairwise (fun a b => a.k ≠ b.k) → ∀ a ∈ l, ∀ b ∈ l, a.k = b.k → a = b
 | [], _, a, ha, _, _, _ => by cases ha
 | x :: r, h, a, ha, b, hb, e => by
  obtain ⟨h1, h2⟩ := List.pairwise_cons.1 h
  rcases List.mem_cons.1 ha with rfl | ha' <;> rcases List.mem_cons.1 hb with rfl | hb'
  ·rfl
  ·exact absurd e (h1 b hb')
  ·exact absurd e.symm (h1 a ha')
  ·exact sep_uniq18 h2 a ha' b hb' e
def trueC (n : Int) (l : List Ent) (c : Cl) : Bool := match l.find? fun e => decide (e.k = c.k) with
 | none => !c.pr
 | some e => c.pr && decide (digL n (valL c.v) = digL n (valL e.v))
theorem sup18 {n : Int} {l : List Ent} {c : Cl} {D : Nat} (hs : Sep 0 l) (hD : D ≤ 256) (h2 : (dK l c.k D).length ≤ 1) (hk : c.k.length = 32) :
  supP (prK n l c.k D) c.k (valD n c) c.pr = trueC n l c := by
 unfold trueC
 cases hp : c.pr with
 | false =>
  have h := sup_no (n := n) hs hD h2 hk
  rw [show supP (prK n l c.k D) c.k (valD n c) false = supNo (prK n l c.k D) c.k from by unfold supP; rw [if_neg (by simp)], h]
  cases l.find? fun e => decide (e.k = c.k) <;> rfl
 | true =>
  rw [show supP (prK n l c.k D) c.k (valD n c) true = supYes (prK n l c.k D) c.k (digL n (valL c.v)) from by unfold supP valD; rw [if_pos rfl, hp, if_pos rfl]]
  cases hf : l.find? fun e => decide (e.k = c.k) with
  | none =>
   have := sup_yes (n := n) hs h2 hk c.v (fun e he h => absurd h ((find_key.1 hf) e he))
   rw [this, hf]; rfl
  | some e =>
   have he := List.mem_of_find?_eq_some hf
   have hek : e.k = c.k := by have := List.find?_some hf; simpa using this
   have hv : ∀ a ∈ l, a.k = c.k → a.v = e.v := fun a ha h => by rw [sep_uniq18 hs.ne a ha e he (h.trans hek.symm)]
   by_cases hd : digL n (valL c.v) = digL n (valL e.v)
   ·have := sup_yes (n := n) hs h2 hk e.v hv
    rw [hd, this, hf]
    simp
   ·rw [sup_other hs e.v _ hv hd]
    simp [hd]
theorem lead18 {n : Int} {l : List Ent} {c : Cl} {D : Nat} (hs : Sep 0 l) (hD : D ≤ 256) (h1 : ∀ j, j < D → 2 ≤ (dK l c.k j).length) (h2 : (dK l c.k D).length ≤ 1) (hk : c.k.length = 32) :
  lastV18 n (rootK 257 n l 0) c (prK n l c.k D) = if trueC n l c = true then (0, 0) else (4, 12) := by
 unfold lastV18
 rw [sup18 hs hD h2 hk]
 cases trueC n l c with
 | false => rfl
 | true =>
  rw [if_neg (by decide), if_neg (fun h => h (lead_root hs hD h1 h2)), if_pos rfl]
theorem ckE18 {n : Int} {root : List UInt8} {c : Cl} {p : Pf} (hr : root.length = 32) (hc : (stC c).2 = 0) (hp : p.Ok) (h0 : chkP p = 0) : ckV n root c (encP p) = lastV18 n root c p := by
 unfold ckV
 rw [if_neg (by omega), if_neg (by omega), if_neg (by rw [(dec_enc hp h0).1]; decide), (dec_enc hp h0).2]
theorem trueC_get {n : Int} {l : List Ent} {k : List UInt8} : (∀ e, l.find? (fun e => decide (e.k = k)) = some e → trueC n l ⟨k, e.v, true⟩ = true) ∧ ∀ v, l.find? (fun e => decide (e.k = k)) = none → trueC n l ⟨k, v, false⟩ = true := by
 constructor
 ·intro e h
  unfold trueC
  rw [show ((⟨k, e.v, true⟩ : Cl).k) = k from rfl, h]
  simp
 ·intro v h
  unfold trueC
  rw [show ((⟨k, v, false⟩ : Cl).k) = k from rfl, h]
  rfl
end
section
open Go.RowKit
theorem get18 (n : Int) {O : List En} (k : List UInt8) {w : World} {A2 : Option Addr} (hA : EA w A2 O) (hv : ∀ e ∈ O, e.v.length ≤ 1000) :
  ∃ B cb vv pr, getVal (getE O k) = .slice B (vv : List UInt8).length cb ∧ (getE O k).isSome = pr ∧ vv.length ≤ cb ∧ vv.length ≤ 1000 ∧ (∀ w', EA w' A2 O → BA w' B vv) ∧ trueC n (O.map En.ent) ⟨k, vv, pr⟩ = true := by
 have hm : (O.map En.ent).find? (fun e => decide (e.k = k)) = (getE O k).map En.ent := by
  rw [List.find?_map]; rfl
 cases hg : getE O k with
 | none =>
  rw [hg] at hm
  exact ⟨none, 0, [], false, rfl, rfl, Nat.le_refl _, by decide, fun w' _ j x hx => by simp at hx, (trueC_get (n := n) (l := O.map En.ent) (k := k)).2 [] hm⟩
 | some e =>
  rw [hg] at hm
  have he : e ∈ O := List.mem_of_find?_eq_some hg
  obtain ⟨i, hi⟩ := List.getElem?_of_mem he
  exact ⟨e.A, e.c, e.v, true, rfl, rfl, (hA i e hi).1.cap, hv e he, fun w' h => (h i e hi).1.val, (trueC_get (n := n) (l := O.map En.ent) (k := k)).1 e.ent hm⟩
theorem EA.hs18 {w w' : World} {b : Nat} {n : Int} {c : Nat} {A : Option Addr} {es : List En} (h : EA w A es) (hh : Hs w b n c) (k : Keep (fun i => i = b) w w') : EA w' A es := fun i e hi => by
 obtain ⟨h1, g, o, rfl, h3⟩ := h i e hi
 have hg : ¬ g = b := fun hl => by
  subst hl
  have h2 := h3 0 (bv (e.k.getD 0 0)) (by
   unfold enC
   rw [List.getElem?_append_left (by rw [List.length_map, h1.key]; decide), List.getElem?_map, List.getD_eq_getElem?_getD, List.getElem?_eq_getElem (by have := h1.key; omega)]
   rfl)
  rw [cell_of_cells hh] at h2
  obtain ⟨q, hq⟩ : ∃ q, q = o + i * 34 + 0 := ⟨_, rfl⟩
  first | rw [← hq] at h2 | skip
  revert h2
  generalize (o + _ : Nat) = q
  intro h2
  match q, h2 with
  | 0, h2 => cases h2
  | 1, h2 => cases h2
  | q + 2, h2 => simp at h2
 exact ⟨⟨h1.key, h1.cap, h1.val.hs16 hh k⟩, g, o, rfl, fun j v hv => k.cellAt (h3 j v hv) hg⟩
theorem bldCl18 (A B : Option Addr) (n ca m cb : Nat) (q : Bool) (w : World) : bldA 24 w #[(0, .slice A n ca), (1, .slice B m cb), (2, .bool q)] = .ok (.value (.agg #[.slice A n ca, .slice B m cb, .bool q])) w := by kernel_rfl
theorem completes18_in {M : World → Int → Tv → Prop} (nd : NdV M) (pf : PfV M) (co : CoV) (ve : VeV) (n : Int) (A : Option Addr) (c : Nat) (es : List En) (k : List UInt8) (hk : k.length = 32) (W : World) (hA : EA W A es) (hl : es.length ≤ 12) (hvl : ∀ e ∈ es, e.v.length ≤ 1000) (hf : fewK (es.map En.ent) = true) (hvx : Vars W) (hex : Ft.ErrVar W) (h0 : 0 ≤ n) (h1 : n ≤ 256) :
  Calls Tryz.prog 7 #[.int .i64 n, .slice A es.length c, .agg (bA k)] W (Aye W) := by
 obtain ⟨X, hX⟩ : ∃ X, X = W.alloc (.cells (bA k) 48) := ⟨_, rfl⟩
 have hb0 : Below W.heap.size W X := by rw [hX]; exact Bt.one_below _ _
 have HR0 : Hid (RowB X W.heap.size 48 k) := by show RowB _ _ _ _; rw [hX]; exact RowB.alloc W k _
 have HX := Lib.hid hX
 have HB0 := Lib.hid hb0
 have HT := Lib.hid (tree_in nd n A c es X (hA.below hb0) hl hvl hf (hvx.below hb0) h0 h1)
 have HVE : Hid (∀ e ∈ ofE es, e.v.length ≤ 1000) := fun e he => hvl e (ofE_mem he)
 have HLE : Hid ((ofE es).length ≤ 100000) := Nat.le_trans (ofE_len es) (Nat.le_trans hl (by decide))
 have HN := Lib.hid (And.intro h0 h1)
 have HKK := Lib.hid hk
 have LK : Hid (∀ w', Below X.heap.size X w' → ldA 48 w' (.pointer (some ⟨W.heap.size, 0, none⟩)) = .ok (.value (.agg (bA k))) w') := fun w' h => (HR0.out.below h).ldKey hk
 have HVX := Lib.hid (hvx.below hb0)
 have HEX := Lib.hid (hex.below hb0)
 have HVE2 := Lib.hid ve
 clear hA hvl hf hvx hex ve hX hb0 h0 h1 hk hl
 go_enter Tryz.func7, Tryz.ntmps7
 go_wp2_with fail
 rw [← HX.out]
 clear HX
 refine HT.out.mono ?_
 rintro _ w2 ⟨A2, c2, T, rfl, hc2, hI, hF⟩
 have HI := Lib.hid hI
 have HF2 := Lib.hid hF
 obtain ⟨O, hO⟩ : ∃ O, O = ofE es := ⟨_, rfl⟩
 rw [← hO] at HI HF2 HVE HLE ⊢
 clear hc2 hI hF HT hO
 have HHI := Lib.hid (hash_in n w2 HN.out.1 HN.out.2)
 go_wp2_with fail
 refine HHI.out.mono ?_
 rintro _ w3 ⟨b, rfl, hbn, hH, hB⟩
 have HF3 := Lib.hid (HF2.out.below nd hB)
 have HH3 := Lib.hid hH
 have HXB : Hid (X.heap.size ≤ b) := Nat.le_trans HF2.out.bel.size hbn
 have HB3 : Hid (Below X.heap.size X w3) := HF3.out.bel
 obtain ⟨rt, hrt⟩ : ∃ rt, rt = rootK 257 n (O.map En.ent) 0 := ⟨_, rfl⟩
 have HRO := root7_c n 257 A2 c2 O 0 w3 HF3.out.ea HLE.out HVE.out (.inr ⟨by decide, by decide⟩)
 rw [← hrt] at HRO
 have HRO := Lib.hid HRO
 have HRT := Lib.hid hrt
 have HRL : Hid (rt.length = 32) := by show _ = _; rw [hrt]; exact rootK_len _ _ _ _
 clear hbn hH hB HHI HF2 hrt
 go_wp2_with fail
 refine HRO.out.mono ?_
 rintro _ w4 ⟨rfl, hb4⟩
 have st4 := stA_new (t := 47) w4 (bA z26) (bA rt) (by rw [bA_size, HRL.out]; exact info26) (by rw [bA_size, bA_size, HRL.out]; rfl) (bA_one _)
 obtain ⟨Y, hY⟩ : ∃ Y, Y = w4.alloc (.cells (bA rt) 47) := ⟨_, rfl⟩
 have hbY : Below w4.heap.size w4 Y := by rw [hY]; exact Bt.one_below _ _
 have h3Y : Below w3.heap.size w3 Y := hb4.trans (hbY.mono hb4.size)
 have HFY := Lib.hid (HF3.out.below nd h3Y)
 have HHY := Lib.hid (HH3.out.keep (Keep.of_below (L := fun _ => False) h3Y) id)
 have HRY : Hid (Y.heap[w4.heap.size]? = some (.cells (bA rt) 47 (0, 0))) := by show _ = _; rw [hY]; exact heap_alloc_new w4 _
 have HBY : Hid (Below X.heap.size X Y) := HB3.out.trans (h3Y.mono HB3.out.size)
 have HNB : Hid (¬ w4.heap.size = b) := fun e => by have h1 := lt_of_heap HH3.out; have h2 := hb4.size; omega
 have lk := LK.out Y HBY.out
 have HG := Lib.hid (get7_c A2 c2 O k Y HFY.out.ea HLE.out HKK.out)
 rw [← hY] at st4
 clear hb4 hY hbY h3Y HRO
 go_wp2_with fail
 refine HG.out.mono ?_
 rintro _ w5 ⟨rfl, hb5⟩
 have HF5 := Lib.hid (HFY.out.below nd hb5)
 have HH5 := Lib.hid (HHY.out.keep (Keep.of_below (L := fun _ => False) hb5) id)
 have HR5 : Hid (w5.heap[w4.heap.size]? = some (.cells (bA rt) 47 (0, 0))) := by show _ = _; rw [hb5.block _ (lt_of_heap HRY.out)]; exact HRY.out
 have HB5 : Hid (Below X.heap.size X w5) := HBY.out.trans (hb5.mono HBY.out.size)
 have lk5 := LK.out w5 HB5.out
 obtain ⟨VB, vc, vv, pr, hgv, hgs, hvc, _, hvb, htr⟩ := get18 n k HF5.out.ea HVE.out
 rw [hgv, hgs]
 have HVC := Lib.hid hvc
 have HVB := Lib.hid hvb
 have HTR := Lib.hid htr
 obtain ⟨P, hP⟩ : ∃ P, P = prK n (O.map En.ent) k (T.dep k 0) := ⟨_, rfl⟩
 obtain ⟨hfew, hdep⟩ : (dK (O.map En.ent) k (T.dep k 0)).length ≤ 1 ∧ ∀ j, j < T.dep k 0 → 2 ≤ (dK (O.map En.ent) k j).length := by
  obtain ⟨i1, i2, i3⟩ := At.fin HI.out.sep T 0 (HI.out.at k)
  exact ⟨i1.few HI.out.sep i2, fun j hj => i3 j (Nat.zero_le _) hj⟩
 have hd256 : T.dep k 0 ≤ 256 := dep_le HI.out.sep (HI.out.at k)
 have HPO : Hid P.Ok := by rw [hP]; exact prK_ok HI.out.sep k
 have HPC : Hid (chkP P = 0) := by show _ = _; rw [hP]; exact prK_good hd256 hdep hfew
 have hsz : P.sib.length ≤ 256 := by
  have hgd : (Bt.setZ (keyF P.bm) 256).length = P.sib.length := by
   rcases chkP_cases P with ⟨h1, _⟩ | ⟨_, ⟨h1, _⟩ | ⟨_, h2⟩⟩
   ·have := HPC.out; omega
   ·have := HPC.out; omega
   ·exact h2.2.2.2.1
  rw [← hgd]
  exact setZ_le17 _ 256
 have HSZ := Lib.hid hsz
 have hst : (stC ⟨k, vv, pr⟩).2 = 0 := by
  unfold stC
  rw [if_neg (by show ¬ k.length ≠ 32; rw [HKK.out]; decide), if_neg (fun h => by have h2 : 65535 < vv.length := h.2; omega)]
 have HCK : Hid (ckV n rt ⟨k, vv, pr⟩ (encP P) = (0, 0)) := by
  show _ = _
  rw [ckE18 HRL.out hst HPO.out HPC.out, hP, HRT.out]
  have := lead18 (c := ⟨k, vv, pr⟩) (n := n) HI.out.sep hd256 hdep hfew HKK.out
  rw [htr, if_pos rfl] at this
  exact this
 have HPV := pf.prove w5 b n 0 (O.map En.ent) T k HH5.out (by decide) HF5.out.vars HF5.out.ms HI.out HKK.out
 rw [← hP] at HPV
 have HPV := Lib.hid HPV
 have HLN : Hid ((encP P).length ≤ 1000000) := by
  show _ ≤ _
  rw [encP_len HPO.out]
  split <;> omega
 clear hb5 HG st4 lk hgv hgs hvc hvb htr hP hfew hdep hd256 hsz hst
 go_wp2_with fail
 refine HPV.out.mono ?_
 rintro _ w6 ⟨A6, c6, m6, rfl, hN6, hm6, hH6, hk6⟩
 have HB6 : Hid (Below X.heap.size X w6) := keep_new HB5.out HXB.out hk6
 have HR6 : Hid (w6.heap[w4.heap.size]? = some (.cells (bA rt) 47 (0, 0))) := hk6.heap HR5.out HNB.out
 have HE6 : Hid (EA w6 A2 O) := HF5.out.ea.hs18 HH5.out hk6
 have HH6 := Lib.hid hH6
 have HM6 := Lib.hid hm6
 have HEN := Lib.hid (co.encode w6 P A6 c6 HPO.out (hN6.ds HPO.out.sib) hN6.1 (by have := HSZ.out; omega) HPC.out)
 clear hN6 hm6 hH6 hk6 HPV lk5
 go_wp2_with fail
 refine HEN.out.mono ?_
 rintro _ w7 ⟨v7, rfl, hO7, hb7⟩
 obtain ⟨D, cd, rfl, hcd, hD⟩ := hO7.any
 have HCD := Lib.hid hcd
 have HD7 := Lib.hid hD
 have HB7 : Hid (Below X.heap.size X w7) := HB6.out.trans (hb7.mono HB6.out.size)
 have HR7 : Hid (w7.heap[w4.heap.size]? = some (.cells (bA rt) 47 (0, 0))) := by show _ = _; rw [hb7.block _ (lt_of_heap HR6.out)]; exact HR6.out
 have HE7 : Hid (EA w7 A2 O) := HE6.out.below hb7
 have HH7 := Lib.hid (HH6.out.keep (Keep.of_below (L := fun _ => False) hb7) id)
 clear hO7 hcd hD hb7 HEN
 have HBX : Hid (∀ w', Keep (fun i => i = b) w7 w' → Below W.heap.size W w') := fun w' h => HB0.out.trans ((keep_new HB7.out HXB.out h).mono HB0.out.size)
 have HBV : Hid (∀ w', Keep (fun i => i = b) w7 w' → Below X.heap.size X w') := fun w' h => keep_new HB7.out HXB.out h
 have HAL : Hid (∀ v, Keep (fun i => i = b) w7 v → Calls Tryz.prog 11 #[] v fun e w' => e = .returned (.bool true) ∧ Below v.heap.size v w') := fun v h => alive18_c HVE2.out co v (HVX.out.below (HBV.out v h)) (HEX.out.below (HBV.out v h))
 have HKC : Hid (∀ v, Keep (fun i => i = b) w7 v → Hs v b n m6 → Calls Tryz.prog 14 #[ptr b, .slice (some ⟨w4.heap.size, 0, none⟩) 32 32, .agg #[.slice (some ⟨W.heap.size, 0, none⟩) 32 32, .slice VB vv.length vc, .bool pr], .slice D (encP P).length cd] v fun e w' => e = .returned (.int .i64 0) ∧ Keep (fun i => i = b) v w') := fun v h hh => by
  have h1 : BA v (some ⟨W.heap.size, 0, none⟩) k := BA_row18 (HR0.out.below (HBV.out v h))
  have := HVE2.out.check v b n m6 rt (some ⟨w4.heap.size, 0, none⟩) 32 ⟨k, vv, pr⟩ (some ⟨W.heap.size, 0, none⟩) VB 32 vc (encP P) D cd hh (by have := HM6.out; omega) (HVX.out.below (HBV.out v h)) (HEX.out.below (HBV.out v h)) (BA_row18 (h.heap HR7.out HNB.out)) (by rw [HRL.out]; exact Nat.le_refl _)
   ⟨h1, by rw [HKK.out]; exact Nat.le_refl _, HVB.out v (HE7.out.hs18 HH7.out h), HVC.out⟩ (HD7.out.hs16 HH7.out h) HCD.out HLN.out
  rw [HCK.out, HRL.out] at this
  have h2 : clC ⟨k, vv, pr⟩ (some ⟨W.heap.size, 0, none⟩) 32 VB vc = #[.slice (some ⟨W.heap.size, 0, none⟩) 32 32, .slice VB vv.length vc, .bool pr] := by unfold clC; rw [HKK.out]
  rw [h2] at this
  exact this.mono fun e w' ⟨m', g1, _, _, g4⟩ => ⟨g1, g4⟩
 have HH0 : Hid (Hs w7.drew b n m6) := HH7.out
 have bc := bldCl18
 go_wp2_with fail
 refine wp_region_held_drew (S := fun w' => Keep (fun i => i = b) w7 w') (by kernel_rfl) ((Keep.refl _ _).drew) (fun hHeld => ?_)
 have hb0 : Keep (fun i => i = b) w7 w7.drew := (Keep.refl _ _).drew
 refine wpAnyH_ready (rs := [0]) (by kernel_rfl) (by simp) ?_
 refine AllReadyH.cons (o := { dst := some 45, op := .call _, .. }) rfl (fun K hK => ?_) AllReadyH.nil
 go_simp
 refine (HAL.out _ (by assumption)).mono ?_
 rintro e y1 ⟨rfl, hb⟩
 have hb1 : Keep (fun i => i = b) w7 y1 := (hb0).trans (Keep.of_below hb)
 have HH1 := Lib.hid (HH0.out.keep (Keep.of_below (L := fun _ => False) hb) id)
 clear hb
 go_wp2_with fail
 refine hK.out _ _ (hb1) (fun hHeld => ?_)
 clear hK K
 try simp only [Act.put, x_A, x_0, x_1]
 refine x_t (i := 1) (oi := { dst := some 46, op := .move (.tmp 45), .. }) (v := ?_) rfl (Or.inl ⟨by rfl, ?_⟩) ?_
 rotate_left 1
 ·intro v hSv
  clear hSv
  go_simp
  try with_reducible rfl
 try simp only [Act.put, x_A, x_0, x_1]
 refine x_t (i := 2) (oi := { dst := some 47, op := .move (.tmp 15), .. }) (v := ?_) rfl (Or.inl ⟨by rfl, ?_⟩) ?_
 rotate_left 1
 ·intro v hSv
  clear hSv
  go_simp
  try with_reducible rfl
 try simp only [Act.put, x_A, x_0, x_1]
 refine x_t (i := 3) (oi := { dst := some 48, op := .binOp .eql _ (.tmp 47) (.const (.int .i64 0)) _, .. }) (v := ?_) rfl (Or.inl ⟨by rfl, ?_⟩) ?_
 rotate_left 1
 ·intro v hSv
  clear hSv
  go_simp
  try with_reducible rfl
 try simp only [Act.put, x_A, x_0, x_1]
 refine x_t (i := 4) (oi := { dst := some 49, op := .pick (.tmp 46) (.tmp 48) (.const (.bool false)), .. }) (v := ?_) rfl (Or.inl ⟨by rfl, ?_⟩) ?_
 rotate_left 1
 ·intro v hSv
  clear hSv
  go_simp
  try with_reducible rfl
 try simp only [Act.put, x_A, x_0, x_1]
 refine x_t (i := 5) (oi := { dst := some 50, op := .move (.tmp 49), .. }) (v := ?_) rfl (Or.inl ⟨by rfl, ?_⟩) ?_
 rotate_left 1
 ·intro v hSv
  clear hSv
  go_simp
  try with_reducible rfl
 try simp only [Act.put, x_A, x_0, x_1]
 refine x_t (i := 6) (oi := { dst := some 51, op := .move (.tmp 10), .. }) (v := ?_) rfl (Or.inl ⟨by rfl, ?_⟩) ?_
 rotate_left 1
 ·intro v hSv
  clear hSv
  go_simp
  try with_reducible rfl
 try simp only [Act.put, x_A, x_0, x_1]
 refine x_t (i := 7) (oi := { dst := some 52, op := .slice _ (.tmp 11) none none none, .. }) (v := ?_) rfl (Or.inl ⟨by rfl, ?_⟩) ?_
 rotate_left 1
 ·intro v hSv
  clear hSv
  go_simp
  try with_reducible rfl
 try simp only [Act.put, x_A, x_0, x_1]
 refine x_t (i := 8) (oi := { dst := some 53, op := .slice _ (.tmp 5) none none none, .. }) (v := ?_) rfl (Or.inl ⟨by rfl, ?_⟩) ?_
 rotate_left 1
 ·intro v hSv
  clear hSv
  go_simp
  try with_reducible rfl
 try simp only [Act.put, x_A, x_0, x_1]
 refine x_t (i := 9) (oi := { dst := some 54, op := .move (.tmp 12), .. }) (v := ?_) rfl (Or.inl ⟨by rfl, ?_⟩) ?_
 rotate_left 1
 ·intro v hSv
  clear hSv
  go_simp
  try with_reducible rfl
 try simp only [Act.put, x_A, x_0, x_1]
 refine x_t (i := 10) (oi := { dst := some 55, op := .move (.tmp 13), .. }) (v := ?_) rfl (Or.inl ⟨by rfl, ?_⟩) ?_
 rotate_left 1
 ·intro v hSv
  clear hSv
  go_simp
  try with_reducible rfl
 try simp only [Act.put, x_A, x_0, x_1]
 refine x_t (i := 11) (oi := { dst := some 56, op := .build _ #[(0, .tmp 53), (1, .tmp 54), (2, .tmp 55)], .. }) (v := ?_) rfl (Or.inl ⟨by rfl, ?_⟩) ?_
 rotate_left 1
 ·intro v hSv
  clear hSv
  go_simp
  try with_reducible rfl
 try simp only [Act.put, x_A, x_0, x_1]
 refine x_t (i := 12) (oi := { dst := some 57, op := .move (.tmp 14), .. }) (v := ?_) rfl (Or.inl ⟨by rfl, ?_⟩) ?_
 rotate_left 1
 ·intro v hSv
  clear hSv
  go_simp
  try with_reducible rfl
 try simp only [Act.put, x_A, x_0, x_1]
 refine wpAnyH_ready (rs := [13]) (by kernel_rfl) (by simp) ?_
 refine AllReadyH.cons (o := { dst := some 58, op := .call _, .. }) rfl (fun K hK => ?_) AllReadyH.nil
 go_simp
 refine (HKC.out _ (by assumption) HH1.out).mono ?_
 rintro e y2 ⟨rfl, hb⟩
 have hb2 : Keep (fun i => i = b) w7 y2 := (hb1).trans hb
 clear hb
 go_wp2_with fail
 refine hK.out _ _ (hb2) (fun hHeld => ?_)
 clear hK K
 try simp only [Act.put, x_A, x_0, x_1]
 refine x_t (i := 14) (oi := { dst := some 59, op := .binOp .eql _ (.tmp 58) (.const (.int .i64 0)) _, .. }) (v := ?_) rfl (Or.inl ⟨by rfl, ?_⟩) ?_
 rotate_left 1
 ·intro v hSv
  clear hSv
  go_simp
  try with_reducible rfl
 try simp only [Act.put, x_A, x_0, x_1]
 refine x_t (i := 15) (oi := { dst := some 60, op := .pick (.tmp 50) (.tmp 59) (.const (.bool false)), .. }) (v := ?_) rfl (Or.inl ⟨by rfl, ?_⟩) ?_
 rotate_left 1
 ·intro v hSv
  clear hSv
  go_simp
  try with_reducible rfl
 try simp only [Act.put, x_A, x_0, x_1]
 refine x_t (i := 16) (oi := { dst := some 6, op := .assign (.tmp 60), .. }) (v := ?_) rfl (Or.inl ⟨by rfl, ?_⟩) ?_
 rotate_left 1
 ·intro v hSv
  clear hSv
  go_simp
  try with_reducible rfl
 try simp only [Act.put, x_A, x_0, x_1]
 refine wpAnyH_done (by kernel_rfl) ?_ _
 go_wp2_with fail
 go_ret
 exact ⟨rfl, HBX.out _ (hb2)⟩
theorem completes18_out (co : CoV) (ve : VeV) (n : Int) (A : Option Addr) (c : Nat) (es : List En) (k : List UInt8) (W : World) (hA : EA W A es) (hvx : Vars W) (hex : Ft.ErrVar W) (h : (n < 0 ∨ 256 < n) ∨ fewK (es.map En.ent) = false) :
  Calls Tryz.prog 7 #[.int .i64 n, .slice A es.length c, .agg (bA k)] W (Aye W) := by
 obtain ⟨X, hX⟩ : ∃ X, X = W.alloc (.cells (bA k) 48) := ⟨_, rfl⟩
 have hb0 : Below W.heap.size W X := by rw [hX]; exact Bt.one_below _ _
 have HX := Lib.hid hX
 have HB0 := Lib.hid hb0
 have HT := Lib.hid (tree_out n A c es X (hA.below hb0) h)
 have HAL := Lib.hid (fun w h => alive18_c ve co w ((hvx.below hb0).below h) ((hex.below hb0).below h))
 clear hA h hX hb0 hvx hex
 go_enter Tryz.func7, Tryz.ntmps7
 go_wp2_with fail
 rw [← HX.out]
 clear HX
 refine HT.out.mono ?_
 rintro _ w2 ⟨rfl, hB⟩
 have HB := Lib.hid hB
 clear hB HT
 go_wp2_with fail
 refine (hash_any n w2).mono ?_
 rintro _ w3 ⟨q, rfl, hB3⟩
 have HB3 := Lib.hid (keeps HB.out hB3)
 clear hB3
 go_wp2_with fail
 refine (HAL.out w3 HB3.out).mono ?_
 rintro _ w4 ⟨rfl, hB4⟩
 have HB4 := Lib.hid (keeps HB3.out hB4)
 clear hB4
 go_wp2_with fail
 go_ret
 exact ⟨rfl, keeps HB0.out HB4.out⟩
theorem completes18_w {M : World → Int → Tv → Prop} (nd : NdV M) (pf : PfV M) (co : CoV) (ve : VeV) (n : Int) (A : Option Addr) (c : Nat) (es : List En) (k : List UInt8) (hk : k.length = 32) (W : World) (hA : EA W A es) (hvx : Vars W) (hex : Ft.ErrVar W) :
  Calls Tryz.prog 7 #[.int .i64 n, .slice A es.length c, .agg (bA k)] W (Aye W) := by
 rcases Classical.em ((n < 0 ∨ 256 < n) ∨ fewK (es.map En.ent) = false) with h | h
 ·exact completes18_out co ve n A c es k W hA hvx hex h
 ·have hf : fewK (es.map En.ent) = true := by
   cases hq : fewK (es.map En.ent) with
   | true => rfl
   | false => exact absurd (.inr hq) h
  have hl := few_len hf
  rw [List.length_map] at hl
  exact completes18_in nd pf co ve n A c es k hk W hA hl (fun e he => Nat.le_trans (few_val hf e.ent (List.mem_map.2 ⟨e, he, rfl⟩)) (by decide)) hf hvx hex (by omega) (by omega)
end
end Go.Proofs.YtjgdindjimbfeaaGreatDoor
