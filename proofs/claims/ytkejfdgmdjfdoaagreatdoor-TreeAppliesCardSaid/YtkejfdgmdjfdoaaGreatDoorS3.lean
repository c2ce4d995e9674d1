import Derived.Test.YtkejfdgmdjfdoaaGreatDoorS2
import Derived.Test.YtkejfdgmdjfdoaaGreatDoorS1
import Derived.Test.YtkejfdgmdjfdoaaGreatDoorT1
import Derived.Test.YtkejfdgmdjfdoaaGreatDoorW1
import Derived.Test.YtkejfdgmdjfdoaaGreatDoorW2
import Derived.Test.YtkejfdgmdjfdoaaGreatDoorMP
namespace Go.Proofs.YtkejfdgmdjfdoaaGreatDoor
set_option linter.unusedSimpArgs false
set_option linter.unusedVariables false
set_option maxHeartbeats 16000000
set_option maxRecDepth 100000
section
open Go.RowKit
theorem OwnPl.below {w w' : World} {B : Nat} {v : Value} {l : List Pl} (h : OwnPl w B v l) (hb : Below w.heap.size w w') : OwnPl w' B v l := row11_keep h (Keep.of_below (L := fun _ => False) hb) fun _ _ h => h
structure SoI (w : World) (us : List Un) (m : Nat) (v : Value) (ps : List Pl) (X : World) : Prop where
 row : OwnPl X w.heap.size v ps
 blk : v.ownBlock ≠ some (w.heap.size + 1)
 seen : SeenM X (w.heap.size + 1) (ps.map Pl.k)
 len : ps.length = m
 at_ : ∀ (i : Nat) (p : Pl), ps[i]? = some p → p.i = i ∧ ∃ u : Up, (us.map Un.up)[i]? = some u ∧ u.k = p.k
 ok : ∀ j, j < m → badU (us.map Un.up) j = 0
 bel : Below w.heap.size w X
theorem SoI.row9 {w wr Y z1 w9 : World} {us : List Un} {m : Nat} {v : Value} {ps : List Pl} (h : SoI w us m v ps wr) (hY : Below wr.heap.size wr Y) (hZ : Below Y.heap.size Y z1) (hK : Keep (fun i => i = w.heap.size + 1) z1 w9) : OwnPl w9 w.heap.size v ps :=
 row11_keep ((h.row.below hY).below hZ) hK fun g hg e => h.blk (by rw [hg]; exact congrArg some e)
theorem SoI.size9 {w wr Y z1 w9 : World} {us : List Un} {m : Nat} {v : Value} {ps : List Pl} (h : SoI w us m v ps wr) (hY : Below wr.heap.size wr Y) (hZ : Below Y.heap.size Y z1) (hK : Keep (fun i => i = w.heap.size + 1) z1 w9) : w.heap.size ≤ w9.heap.size :=
 Nat.le_trans h.bel.size (Nat.le_trans hY.size (Nat.le_trans hZ.size hK.size))
theorem SoI.step {w wr Y z1 w9 Z w10 : World} {us : List Un} {m : Nat} {v v' : Value} {ps : List Pl} {pp : Pl} {x : Un} (h : SoI w us m v ps wr) (hY : Below wr.heap.size wr Y) (hB : Below Y.heap.size Y z1) (hS : SeenM w9 (w.heap.size + 1) (ps.map Pl.k ++ [pp.k])) (hK : Keep (fun i => i = w.heap.size + 1) z1 w9) (hZ : Below w9.heap.size w9 Z)
  (hO : OwnPl w10 w.heap.size v' (ps ++ [pp])) (hG : Grown11 v v' Z w10) (hi : pp.i = m) (hx : us[m]? = some x) (hk : x.k = pp.k) (hb : badU (us.map Un.up) m = 0) : SoI w us (m + 1) v' (ps ++ [pp]) w10 := by
 have h9 := h.size9 hY hB hK
 have hlt : w.heap.size + 1 < w9.heap.size := hS.lt
 have hrow : OwnPl Z w.heap.size v ps := (h.row9 hY hB hK).below hZ
 refine ⟨hO, fun e => ?_, ?_, by rw [List.length_append, h.len]; rfl, fun i p hp => ?_, fun j hj => ?_, ?_⟩
 ·rcases hG.blk with hb | hb
  ·exact h.blk (hb ▸ e)
  ·rw [hb] at e
   have := Option.some.inj e
   have := hZ.size
   omega
 ·rw [List.map_append]
  exact (hS.below hZ).keep hG.keep fun e => h.blk e
 ·rcases Nat.lt_or_ge i ps.length with h1 | h1
  ·rw [List.getElem?_append_left h1] at hp
   exact h.at_ i p hp
  ·rw [List.getElem?_append_right h1] at hp
   have hlt := (List.getElem?_eq_some_iff.1 hp).1
   rw [List.length_singleton] at hlt
   have e : i = m := by have := h.len; omega
   subst e
   rw [h.len, Nat.sub_self] at hp
   obtain rfl : pp = p := by simpa using hp
   exact ⟨hi, x.up, by rw [List.getElem?_map, hx]; rfl, hk⟩
 ·rcases Nat.lt_or_ge j m with h1 | h1
  ·exact h.ok j h1
  ·obtain rfl : j = m := by omega
   exact hb
 ·have hw := h.bel.size
  have hy := hY.size
  have hz := hB.size
  have h0 : Below w.heap.size w z1 := h.bel.trans ((hY.trans (hB.mono hY.size)).mono hw)
  have h1 : Below w.heap.size w w9 := h0.trans (hK.below (by omega) fun i e => by have e2 : i = w.heap.size + 1 := e; omega)
  have h2 : Below w.heap.size w Z := h1.trans (hZ.mono h9)
  exact h2.trans (hG.keep.below (by have := hZ.size; omega) fun i e => (row11_lt hrow i e).1)
def SortedPost (us : List Un) (w : World) (e : Ending) (w' : World) : Prop :=
 ((checkU (us.map Un.up)).2 = 0 → ∃ (P : Option Addr) (c : Nat) (ps : List Pl), e = .returned (.tuple #[.slice P ps.length c, .nilIface]) ∧ PlA w' P ps ∧ Pls (us.map Un.up) ps ∧ ps.Pairwise (fun a b => ¬ cmpK b.k a.k < 0) ∧ Below w.heap.size w w') ∧
 ((checkU (us.map Un.up)).2 ≠ 0 → ∃ b, e = .returned (.tuple #[.slice none 0 0, .iface 142 (.pointer (some ⟨b, 0, none⟩))]) ∧ Wrong w' (opB applyB) ((checkU (us.map Un.up)).1 : Int) (checkU (us.map Un.up)).2 (.iface 142 (.pointer (some ⟨b, 0, none⟩))) ∧ Below w.heap.size w w')
theorem sorted_err {us : List Un} {w w' : World} {m b : Nat} {E : Int} (hf : checkU (us.map Un.up) = (m, E)) (hE : E ≠ 0) (hw : Wrong w' (opB applyB) (m : Int) E (.iface 142 (.pointer (some ⟨b, 0, none⟩)))) (hb : Below w.heap.size w w') : SortedPost us w (.returned (.tuple #[.slice none 0 0, .iface 142 (.pointer (some ⟨b, 0, none⟩))])) w' := by
 unfold SortedPost
 rw [hf]
 exact ⟨fun h => absurd h hE, fun _ => ⟨b, rfl, hw, hb⟩⟩
theorem sorted_fine {us : List Un} {w w' : World} {P : Option Addr} {n c : Nat} {ps : List Pl} (hf : checkU (us.map Un.up) = (0, 0)) (hn : ps.length = n) (h1 : PlA w' P ps) (h2 : Pls (us.map Un.up) ps) (h3 : ps.Pairwise (fun a b => ¬ cmpK b.k a.k < 0)) (hb : Below w.heap.size w w') : SortedPost us w (.returned (.tuple #[.slice P n c, .nilIface])) w' := by
 unfold SortedPost
 rw [hf]
 exact ⟨fun _ => ⟨P, c, ps, by rw [hn], h1, h2, h3, hb⟩, fun h => absurd rfl h⟩
theorem sorted_c (A : Option Addr) (c : Nat) (us : List Un) (w : World) (hA : UA w A us) (hn : us.length ≤ 1000) :
  Calls Tryz.prog 53 #[.slice A us.length c] w (SortedPost us w) := by
 have HA := Lib.hid hA
 have hn9 : us.length ≤ 1000 := hn
 have hmk := make_pls us.length (by omega) w
 have hmm := @run_makeMap Tryz.prog
 have hI0 : SoI w us 0 (.slice (some ⟨w.heap.size, 0, none⟩) 0 us.length) [] ((w.alloc (.cells (mPl us.length) 154)).alloc (.map #[] 0)) := by
  have hs : (w.alloc (.cells (mPl us.length) 154)).heap.size = w.heap.size + 1 := by simp
  have hb : Below w.heap.size w (w.alloc (.cells (mPl us.length) 154)) := (Below.refl _ _).alloc (Nat.le_refl _) _
  refine ⟨OwnPl.below (own_pls w us.length (by omega)) ((Below.refl _ _).alloc (Nat.le_refl _) _), fun e => ?_, ?_, rfl, fun i p hp => by simp at hp, fun j hj => absurd hj (Nat.not_lt_zero j), hb.alloc hb.size _⟩
  ·have := Option.some.inj (show some w.heap.size = some (w.heap.size + 1) from e)
   omega
  ·have := seen_made (w.alloc (.cells (mPl us.length) 154))
   rwa [hs] at this
 have HI0 := Lib.hid hI0
 clear hA hn hI0
 go_enter Tryz.func53, Tryz.ntmps53
 go_wp2_with fail
 go_loopg [4, 17] us.length (fun gg v iv wr => ∃ (m : Nat) (ps : List Pl), iv = .int .i64 (m : Int) ∧ m ≤ us.length ∧ us.length - m = gg ∧ Hid (SoI w us m v ps wr))
 case atStart => exact ⟨0, [], rfl, by omega, by omega, HI0⟩
 case round =>
  obtain ⟨m, ps, rfl, hm, rfl, HI⟩ := hrel
  by_cases hlt : m < us.length
  ·have hd : decide (m < us.length) = true := decide_eq_true hlt
   obtain ⟨x, hx⟩ : ∃ x, us[m]? = some x := ⟨_, List.getElem?_eq_getElem hlt⟩
   obtain ⟨hok, g, o, rfl, hr⟩ := HA.out m x hx
   have hr2 := range_below hr HI.out.bel
   have hok2 := hok.below HI.out.bel
   have c0 := range_ukey hr2
   have c1 := range_uval hr2
   have c2 := range_udel hr2
   have HX := Lib.hid hx
   have p0 : (0 : Int) ≤ (m : Int) := by omega
   have p1 : (m : Int) < (us.length : Int) := by omega
   obtain ⟨Y, hY⟩ : ∃ Y, Y = wr.alloc (.cells #[.slice x.A x.k.length x.c, .slice x.B x.v.length x.e, .bool x.d] 77) := ⟨_, rfl⟩
   have hY1 : Below wr.heap.size wr Y := by rw [hY]; exact (Below.refl _ _).alloc (Nat.le_refl _) _
   have hyb : Y.heap[wr.heap.size]? = some (.cells #[.slice x.A x.k.length x.c, .slice x.B x.v.length x.e, .bool x.d] 77 (0, 0)) := by rw [hY]; exact heap_alloc_new wr _
   have HBWY := Lib.hid hY1
   have HBY := Lib.hid (HI.out.bel.trans (hY1.mono HI.out.bel.size))
   have LY : Hid (∀ v, Below Y.heap.size Y v → v.cell? ⟨wr.heap.size, 0, none⟩ = some (.slice x.A x.k.length x.c) ∧ v.cell? ⟨wr.heap.size, 1, none⟩ = some (.slice x.B x.v.length x.e) ∧ v.cell? ⟨wr.heap.size, 2, none⟩ = some (.bool x.d)) := fun v hv => by
    have h := (hv.block _ (lt_of_heap hyb)).trans hyb
    exact ⟨by rw [cell_of_cells h]; rfl, by rw [cell_of_cells h]; rfl, by rw [cell_of_cells h]; rfl⟩
   obtain ⟨VA, hVA⟩ : ∃ VA, VA = x.vA := ⟨_, rfl⟩
   obtain ⟨VE, hVE⟩ : ∃ VE, VE = x.vE := ⟨_, rfl⟩
   obtain ⟨V0, hV0⟩ : ∃ V0, V0 = x.up.val := ⟨_, rfl⟩
   obtain ⟨E, hE⟩ : ∃ E, E = rightK x.k V0 := ⟨_, rfl⟩
   obtain ⟨q, hq⟩ : ∃ q, q = keyR x.k V0 := ⟨_, rfl⟩
   have HQ : Hid (q.length = 32) := by show _ = _; rw [hq]; exact keyR_len _ _
   have HVO : Hid (∀ y, Calls Tryz.prog 80 #[.agg #[.slice x.A x.k.length x.c, .slice x.B x.v.length x.e, .bool x.d]] y fun e w' => e = .returned (.slice VA V0.length VE) ∧ Below y.heap.size y w') := fun y => by
    rw [hVA, hVE, hV0]
    exact valueOf_c x y
   have HCK : Hid (∀ y, Below Y.heap.size Y y → Calls Tryz.prog 65 #[.slice x.A x.k.length x.c, .slice VA V0.length VE] y fun e w' => e = .returned (.tuple #[.agg (bA q), .int .i64 E]) ∧ Below y.heap.size y w') := fun y hy => by
    rw [hq, hE]
    exact tcheck_c x.A VA x.c VE x.k V0 y ((hok2.key.below hY1).below hy)
   have HSN := Lib.hid (HI.out.seen.below hY1)
   have HSLT : Hid (w.heap.size + 1 < Y.heap.size) := HSN.out.lt
   have HEE : Hid (E = rightK x.k x.up.val) := by show _ = _; rw [hE, hV0]
   have HLN : Hid (m + 1 ≤ us.length) := hlt
   by_cases he : E = 0
   ·have HK : Hid (x.k = q) := by show _ = _; rw [hq]; unfold keyR; rw [← hE, if_pos he]
    have HR0 : Hid (rightK x.k x.up.val = 0) := by show _ = _; rw [← HEE.out]; exact he
    subst he
    obtain ⟨sb, hsb⟩ : ∃ sb, sb = decide (q ∈ ps.map Pl.k) := ⟨_, rfl⟩
    have HSE : Hid (decide (q ∈ ps.map Pl.k) = sb) := hsb.symm
    have HYY := Lib.hid hY
    cases sb with
    | true =>
     have HCF : Hid (checkU (us.map Un.up) = (m, 9)) := by
      obtain ⟨p, hp, hpk⟩ := List.mem_map.1 (of_decide_eq_true hsb.symm)
      obtain ⟨j, hj⟩ := List.mem_iff_getElem?.1 hp
      obtain ⟨hpi, u, hu, huk⟩ := HI.out.at_ j p hj
      rw [List.getElem?_map] at hu
      obtain ⟨y, hy, rfl⟩ := Option.map_eq_some_iff.1 hu
      have hjm : j < m := by rw [← HI.out.len]; exact (List.getElem?_eq_some_iff.1 hj).1
      have h9 := badU_dup HX.out HR0.out hjm hy (by rw [HK.out, ← hpk, ← huk]; rfl)
      show _ = _
      rw [checkU_at (by rw [List.length_map]; omega) HI.out.ok (by rw [h9]; decide), h9]
     clear hx hok hr hr2 hok2 hY hY1 hyb hVA hVE hV0 hE hq hsb
     go_wp2_with fail
     rw [← HYY.out]
     refine wp_region_held_drew (S := fun w' => Below Y.heap.size Y w') (by kernel_rfl) ((Below.refl _ _).drew) (fun hHeld => ?_)
     have hb0 : Below Y.heap.size Y Y.drew := (Below.refl _ _).drew
     refine x_t (i := 0) (oi := { dst := some 23, op := .fieldAddr _ (.tmp 7) 0, .. }) (v := ?_) rfl (Or.inl ⟨by rfl, ?_⟩) ?_
     rotate_left 1
     ·intro v hSv
      clear hSv
      go_simp
      try with_reducible rfl
     try simp only [Act.put, x_A, x_0, x_1]
     refine x_t (i := 1) (oi := { dst := some 24, op := .load _ (.tmp 23), .. }) (v := ?_) rfl (Or.inl ⟨by rfl, ?_⟩) ?_
     rotate_left 1
     ·intro v hSv
      have hv1 := LY.out v hSv |>.1
      clear hSv
      go_simp
      try with_reducible rfl
     try simp only [Act.put, x_A, x_0, x_1]
     refine x_t (i := 2) (oi := { dst := some 25, op := .load _ (.tmp 7), .. }) (v := ?_) rfl (Or.inl ⟨by rfl, ?_⟩) ?_
     rotate_left 1
     ·intro v hSv
      have hv1 := LY.out v hSv
      clear hSv
      go_simp
      try with_reducible rfl
     try simp only [Act.put, x_A, x_0, x_1]
     refine wpAnyH_ready (rs := [3, 8]) (by kernel_rfl) (by simp) ?_
     refine AllReadyH.cons (o := { dst := some 26, op := .call _, .. }) rfl (fun K hK => ?_) (AllReadyH.cons (o := { dst := some 8, op := .alloc _, .. }) rfl (fun K hK => ?_) (AllReadyH.nil))
     ·skip
      go_simp
      refine (HVO.out Y.drew).mono ?_
      rintro e y1 ⟨rfl, hb⟩
      have hb1 : Below Y.heap.size Y y1 := keeps (hb0) hb
      clear hb
      go_wp2_with fail
      refine hK.out _ _ (hb1) (fun hHeld => ?_)
      clear hK K
      try simp only [Act.put, x_A, x_0, x_1]
      refine wpAnyH_ready (rs := [4, 8]) (by kernel_rfl) (by simp) ?_
      refine AllReadyH.cons (o := { dst := some 27, op := .call _, .. }) rfl (fun K hK => ?_) (AllReadyH.cons (o := { dst := some 8, op := .alloc _, .. }) rfl (fun K hK => ?_) (AllReadyH.nil))
      ·skip
       go_simp
       refine (HCK.out y1 (hb1)).mono ?_
       rintro e y2 ⟨rfl, hb⟩
       have hb2 : Below Y.heap.size Y y2 := keeps (hb1) hb
       clear hb
       go_wp2_with fail
       refine hK.out _ _ (hb2) (fun hHeld => ?_)
       clear hK K
       try simp only [Act.put, x_A, x_0, x_1]
       refine x_t (i := 5) (oi := { dst := some 22, op := .move (.tmp 27), .. }) (v := ?_) rfl (Or.inl ⟨by rfl, ?_⟩) ?_
       rotate_left 1
       ·intro v hSv
        clear hSv
        go_simp
        try with_reducible rfl
       try simp only [Act.put, x_A, x_0, x_1]
       refine x_t (i := 6) (oi := { dst := some 28, op := .extract (.tmp 22) 0, .. }) (v := ?_) rfl (Or.inl ⟨by rfl, ?_⟩) ?_
       rotate_left 1
       ·intro v hSv
        clear hSv
        go_simp
        try with_reducible rfl
       try simp only [Act.put, x_A, x_0, x_1]
       refine x_t (i := 7) (oi := { dst := some 29, op := .extract (.tmp 22) 1, .. }) (v := ?_) rfl (Or.inl ⟨by rfl, ?_⟩) ?_
       rotate_left 1
       ·intro v hSv
        clear hSv
        go_simp
        try with_reducible rfl
       try simp only [Act.put, x_A, x_0, x_1]
       refine wpAnyH_ready (rs := [8]) (by kernel_rfl) (by simp) ?_
       refine AllReadyH.cons (o := { dst := some 8, op := .alloc _, .. }) rfl (fun K hK => ?_) AllReadyH.nil
       go_simp
       refine hK.out _ _ (made_bel (hb2) _) (fun hHeld => ?_)
       clear hK K
       try simp only [Act.put, x_A, x_0, x_1]
       refine wpAnyH_ready (rs := [9]) (by kernel_rfl) (by simp) ?_
       refine AllReadyH.cons (o := { dst := none, op := .store _ (.tmp 8) (.tmp 28), .. }) rfl (fun K hK => ?_) AllReadyH.nil
       have hz9 : (y2.alloc (.cells (Bt.kc Bt.kz) 40)).heap[y2.heap.size]? = some (.cells (Bt.kc Bt.kz) 40 (0, 0)) := (heap_alloc_new y2 _)
       have st1 := stKey13_old (k := q) hz9 (Bt.kc_size _) HQ.out
       have HG8 := Lib.hid (setRow_heap (y2.alloc (.cells (Bt.kc Bt.kz) 40)) y2.heap.size _ (bA q) _ _ hz9)
       clear hz9
       go_simp
       refine hK.out _ _ (below_row13 (made_bel (hb2) _) ((hb2).size) _) (fun hHeld => ?_)
       clear hK K
       try simp only [Act.put, x_A, x_0, x_1]
       refine x_t (i := 10) (oi := { dst := some 9, op := .assign (.tmp 29), .. }) (v := ?_) rfl (Or.inl ⟨by rfl, ?_⟩) ?_
       rotate_left 1
       ·intro v hSv
        clear hSv
        go_simp
        try with_reducible rfl
       try simp only [Act.put, x_A, x_0, x_1]
       refine wpAnyH_done (by kernel_rfl) ?_ _
       obtain ⟨V, hV⟩ : ∃ V, V = ((y2.alloc (.cells (Bt.kc Bt.kz) 40)).setRow y2.heap.size (bA q)) := ⟨_, rfl⟩
       have HBV : Hid (Below Y.heap.size Y V) := by rw [hV]; exact (below_row13 (made_bel (hb2) _) ((hb2).size) _)
       have HGV : Hid (V.heap[y2.heap.size]? = some (.cells (bA q) 40 (0, 0))) := by rw [hV]; exact HG8.out
       have lk8 := ldKey13 HGV.out HQ.out
       have lo := (HSN.out.below HBV.out).look HQ.out
       rw [HSE.out] at lo
       rw [hV] at lo
       rw [hV] at lk8
       have HV := Lib.hid hV
       clear hV
       go_wp2_with fail
       rw [← HV.out]
       refine (wrap_no (opB applyB) (m : Int) 9 (by decide) V).mono ?_
       rintro _ z1 ⟨b9, rfl, hWG, hB⟩
       have HWG := Lib.hid hWG
       have HBF := Lib.hid (HBY.out.trans ((HBV.out.trans (hB.mono HBV.out.size)).mono HBY.out.size))
       clear hWG hB
       go_wp2_with fail
       go_ret2
       exact sorted_err HCF.out (by decide) HWG.out HBF.out
      ·skip
       go_simp
       refine hK.out _ _ (made_bel (hb1) _) (fun hHeld => ?_)
       clear hK K
       try simp only [Act.put, x_A, x_0, x_1]
       refine wpAnyH_ready (rs := [4]) (by kernel_rfl) (by simp) ?_
       refine AllReadyH.cons (o := { dst := some 27, op := .call _, .. }) rfl (fun K hK => ?_) AllReadyH.nil
       go_simp
       refine (HCK.out (y1.alloc (.cells (Bt.kc Bt.kz) 40)) (made_bel (hb1) _)).mono ?_
       rintro e y3 ⟨rfl, hb⟩
       have hb3 : Below Y.heap.size Y y3 := keeps (made_bel (hb1) _) hb
       have HG8 := Lib.hid ((hb.block _ (lt_of_heap (heap_alloc_new y1 _))).trans (heap_alloc_new y1 _))
       clear hb
       go_wp2_with fail
       refine hK.out _ _ (hb3) (fun hHeld => ?_)
       clear hK K
       try simp only [Act.put, x_A, x_0, x_1]
       refine x_t (i := 5) (oi := { dst := some 22, op := .move (.tmp 27), .. }) (v := ?_) rfl (Or.inl ⟨by rfl, ?_⟩) ?_
       rotate_left 1
       ·intro v hSv
        clear hSv
        go_simp
        try with_reducible rfl
       try simp only [Act.put, x_A, x_0, x_1]
       refine x_t (i := 6) (oi := { dst := some 28, op := .extract (.tmp 22) 0, .. }) (v := ?_) rfl (Or.inl ⟨by rfl, ?_⟩) ?_
       rotate_left 1
       ·intro v hSv
        clear hSv
        go_simp
        try with_reducible rfl
       try simp only [Act.put, x_A, x_0, x_1]
       refine x_t (i := 7) (oi := { dst := some 29, op := .extract (.tmp 22) 1, .. }) (v := ?_) rfl (Or.inl ⟨by rfl, ?_⟩) ?_
       rotate_left 1
       ·intro v hSv
        clear hSv
        go_simp
        try with_reducible rfl
       try simp only [Act.put, x_A, x_0, x_1]
       refine wpAnyH_ready (rs := [9]) (by kernel_rfl) (by simp) ?_
       refine AllReadyH.cons (o := { dst := none, op := .store _ (.tmp 8) (.tmp 28), .. }) rfl (fun K hK => ?_) AllReadyH.nil
       have hz9 : y3.heap[y1.heap.size]? = some (.cells (Bt.kc Bt.kz) 40 (0, 0)) := HG8.out
       have st1 := stKey13_old (k := q) hz9 (Bt.kc_size _) HQ.out
       have HG8 := Lib.hid (setRow_heap y3 y1.heap.size _ (bA q) _ _ hz9)
       clear hz9
       go_simp
       refine hK.out _ _ (below_row13 (hb3) ((hb1).size) _) (fun hHeld => ?_)
       clear hK K
       try simp only [Act.put, x_A, x_0, x_1]
       refine x_t (i := 10) (oi := { dst := some 9, op := .assign (.tmp 29), .. }) (v := ?_) rfl (Or.inl ⟨by rfl, ?_⟩) ?_
       rotate_left 1
       ·intro v hSv
        clear hSv
        go_simp
        try with_reducible rfl
       try simp only [Act.put, x_A, x_0, x_1]
       refine wpAnyH_done (by kernel_rfl) ?_ _
       obtain ⟨V, hV⟩ : ∃ V, V = (y3.setRow y1.heap.size (bA q)) := ⟨_, rfl⟩
       have HBV : Hid (Below Y.heap.size Y V) := by rw [hV]; exact (below_row13 (hb3) ((hb1).size) _)
       have HGV : Hid (V.heap[y1.heap.size]? = some (.cells (bA q) 40 (0, 0))) := by rw [hV]; exact HG8.out
       have lk8 := ldKey13 HGV.out HQ.out
       have lo := (HSN.out.below HBV.out).look HQ.out
       rw [HSE.out] at lo
       rw [hV] at lo
       rw [hV] at lk8
       have HV := Lib.hid hV
       clear hV
       go_wp2_with fail
       rw [← HV.out]
       refine (wrap_no (opB applyB) (m : Int) 9 (by decide) V).mono ?_
       rintro _ z1 ⟨b9, rfl, hWG, hB⟩
       have HWG := Lib.hid hWG
       have HBF := Lib.hid (HBY.out.trans ((HBV.out.trans (hB.mono HBV.out.size)).mono HBY.out.size))
       clear hWG hB
       go_wp2_with fail
       go_ret2
       exact sorted_err HCF.out (by decide) HWG.out HBF.out
     ·skip
      go_simp
      refine hK.out _ _ (made_bel (hb0) _) (fun hHeld => ?_)
      clear hK K
      try simp only [Act.put, x_A, x_0, x_1]
      refine wpAnyH_ready (rs := [3]) (by kernel_rfl) (by simp) ?_
      refine AllReadyH.cons (o := { dst := some 26, op := .call _, .. }) rfl (fun K hK => ?_) AllReadyH.nil
      go_simp
      refine (HVO.out (Y.drew.alloc (.cells (Bt.kc Bt.kz) 40))).mono ?_
      rintro e y4 ⟨rfl, hb⟩
      have hb4 : Below Y.heap.size Y y4 := keeps (made_bel (hb0) _) hb
      have HG8 := Lib.hid ((hb.block _ (lt_of_heap (heap_alloc_new Y.drew _))).trans (heap_alloc_new Y.drew _))
      clear hb
      go_wp2_with fail
      refine hK.out _ _ (hb4) (fun hHeld => ?_)
      clear hK K
      try simp only [Act.put, x_A, x_0, x_1]
      refine wpAnyH_ready (rs := [4]) (by kernel_rfl) (by simp) ?_
      refine AllReadyH.cons (o := { dst := some 27, op := .call _, .. }) rfl (fun K hK => ?_) AllReadyH.nil
      go_simp
      refine (HCK.out y4 (hb4)).mono ?_
      rintro e y5 ⟨rfl, hb⟩
      have hb5 : Below Y.heap.size Y y5 := keeps (hb4) hb
      have HG8 := Lib.hid ((hb.block _ (lt_of_heap HG8.out)).trans HG8.out)
      clear hb
      go_wp2_with fail
      refine hK.out _ _ (hb5) (fun hHeld => ?_)
      clear hK K
      try simp only [Act.put, x_A, x_0, x_1]
      refine x_t (i := 5) (oi := { dst := some 22, op := .move (.tmp 27), .. }) (v := ?_) rfl (Or.inl ⟨by rfl, ?_⟩) ?_
      rotate_left 1
      ·intro v hSv
       clear hSv
       go_simp
       try with_reducible rfl
      try simp only [Act.put, x_A, x_0, x_1]
      refine x_t (i := 6) (oi := { dst := some 28, op := .extract (.tmp 22) 0, .. }) (v := ?_) rfl (Or.inl ⟨by rfl, ?_⟩) ?_
      rotate_left 1
      ·intro v hSv
       clear hSv
       go_simp
       try with_reducible rfl
      try simp only [Act.put, x_A, x_0, x_1]
      refine x_t (i := 7) (oi := { dst := some 29, op := .extract (.tmp 22) 1, .. }) (v := ?_) rfl (Or.inl ⟨by rfl, ?_⟩) ?_
      rotate_left 1
      ·intro v hSv
       clear hSv
       go_simp
       try with_reducible rfl
      try simp only [Act.put, x_A, x_0, x_1]
      refine wpAnyH_ready (rs := [9]) (by kernel_rfl) (by simp) ?_
      refine AllReadyH.cons (o := { dst := none, op := .store _ (.tmp 8) (.tmp 28), .. }) rfl (fun K hK => ?_) AllReadyH.nil
      have hz9 : y5.heap[Y.heap.size]? = some (.cells (Bt.kc Bt.kz) 40 (0, 0)) := HG8.out
      have st1 := stKey13_old (k := q) hz9 (Bt.kc_size _) HQ.out
      have HG8 := Lib.hid (setRow_heap y5 Y.heap.size _ (bA q) _ _ hz9)
      clear hz9
      go_simp
      refine hK.out _ _ (below_row13 (hb5) ((hb0).size) _) (fun hHeld => ?_)
      clear hK K
      try simp only [Act.put, x_A, x_0, x_1]
      refine x_t (i := 10) (oi := { dst := some 9, op := .assign (.tmp 29), .. }) (v := ?_) rfl (Or.inl ⟨by rfl, ?_⟩) ?_
      rotate_left 1
      ·intro v hSv
       clear hSv
       go_simp
       try with_reducible rfl
      try simp only [Act.put, x_A, x_0, x_1]
      refine wpAnyH_done (by kernel_rfl) ?_ _
      obtain ⟨V, hV⟩ : ∃ V, V = (y5.setRow Y.heap.size (bA q)) := ⟨_, rfl⟩
      have HBV : Hid (Below Y.heap.size Y V) := by rw [hV]; exact (below_row13 (hb5) ((hb0).size) _)
      have HGV : Hid (V.heap[Y.heap.size]? = some (.cells (bA q) 40 (0, 0))) := by rw [hV]; exact HG8.out
      have lk8 := ldKey13 HGV.out HQ.out
      have lo := (HSN.out.below HBV.out).look HQ.out
      rw [HSE.out] at lo
      rw [hV] at lo
      rw [hV] at lk8
      have HV := Lib.hid hV
      clear hV
      go_wp2_with fail
      rw [← HV.out]
      refine (wrap_no (opB applyB) (m : Int) 9 (by decide) V).mono ?_
      rintro _ z1 ⟨b9, rfl, hWG, hB⟩
      have HWG := Lib.hid hWG
      have HBF := Lib.hid (HBY.out.trans ((HBV.out.trans (hB.mono HBV.out.size)).mono HBY.out.size))
      clear hWG hB
      go_wp2_with fail
      go_ret2
      exact sorted_err HCF.out (by decide) HWG.out HBF.out
    | false =>
     have HOKB : Hid (badU (us.map Un.up) m = 0) := badU_ok HX.out HR0.out fun j y hj hy he => by
      have hjl : j < ps.length := by rw [HI.out.len]; exact hj
      obtain ⟨hpi, u, hu, huk⟩ := HI.out.at_ j ps[j] (List.getElem?_eq_getElem hjl)
      rw [List.getElem?_map, hy] at hu
      obtain rfl := Option.some.inj hu
      exact of_decide_eq_false hsb.symm (by
       rw [← HK.out, he]
       exact List.mem_map.2 ⟨ps[j], List.getElem_mem hjl, huk.symm⟩)
     obtain ⟨pp, hpp⟩ : ∃ pp : Pl, pp = ⟨q, m, HQ.out⟩ := ⟨_, rfl⟩
     have HPI : Hid (pp.i = m) := by show _ = _; rw [hpp]
     have HPK : Hid (x.k = pp.k) := by show _ = _; rw [hpp, HK.out]
     have bl : ∀ w, bldA 154 w #[(0, .agg (bA q)), (1, .int .i64 (m : Int))] = .ok (.value (.agg (plC pp).toArray)) w := fun w => by rw [hpp]; exact bldPl ⟨q, m, HQ.out⟩ w
     have HLP : Hid (ps.length ≤ 1000000) := by show _ ≤ _; rw [HI.out.len]; omega
     have HLK : Hid ((ps.map Pl.k).length ≤ 1000000) := by show _ ≤ _; rw [List.length_map]; exact HLP.out
     clear hx hok hr hr2 hok2 hY hY1 hyb hVA hVE hV0 hE hq hsb
     have HS9k : Hid (q = pp.k) := by show _ = _; rw [hpp]
     clear hpp
     go_wp2_with fail
     rw [← HYY.out]
     refine wp_region_held_drew (S := fun w' => Below Y.heap.size Y w') (by kernel_rfl) ((Below.refl _ _).drew) (fun hHeld => ?_)
     have hb0 : Below Y.heap.size Y Y.drew := (Below.refl _ _).drew
     refine x_t (i := 0) (oi := { dst := some 23, op := .fieldAddr _ (.tmp 7) 0, .. }) (v := ?_) rfl (Or.inl ⟨by rfl, ?_⟩) ?_
     rotate_left 1
     ·intro v hSv
      clear hSv
      go_simp
      try with_reducible rfl
     try simp only [Act.put, x_A, x_0, x_1]
     refine x_t (i := 1) (oi := { dst := some 24, op := .load _ (.tmp 23), .. }) (v := ?_) rfl (Or.inl ⟨by rfl, ?_⟩) ?_
     rotate_left 1
     ·intro v hSv
      have hv1 := LY.out v hSv |>.1
      clear hSv
      go_simp
      try with_reducible rfl
     try simp only [Act.put, x_A, x_0, x_1]
     refine x_t (i := 2) (oi := { dst := some 25, op := .load _ (.tmp 7), .. }) (v := ?_) rfl (Or.inl ⟨by rfl, ?_⟩) ?_
     rotate_left 1
     ·intro v hSv
      have hv1 := LY.out v hSv
      clear hSv
      go_simp
      try with_reducible rfl
     try simp only [Act.put, x_A, x_0, x_1]
     refine wpAnyH_ready (rs := [3, 8]) (by kernel_rfl) (by simp) ?_
     refine AllReadyH.cons (o := { dst := some 26, op := .call _, .. }) rfl (fun K hK => ?_) (AllReadyH.cons (o := { dst := some 8, op := .alloc _, .. }) rfl (fun K hK => ?_) (AllReadyH.nil))
     ·skip
      go_simp
      refine (HVO.out Y.drew).mono ?_
      rintro e y1 ⟨rfl, hb⟩
      have hb1 : Below Y.heap.size Y y1 := keeps (hb0) hb
      clear hb
      go_wp2_with fail
      refine hK.out _ _ (hb1) (fun hHeld => ?_)
      clear hK K
      try simp only [Act.put, x_A, x_0, x_1]
      refine wpAnyH_ready (rs := [4, 8]) (by kernel_rfl) (by simp) ?_
      refine AllReadyH.cons (o := { dst := some 27, op := .call _, .. }) rfl (fun K hK => ?_) (AllReadyH.cons (o := { dst := some 8, op := .alloc _, .. }) rfl (fun K hK => ?_) (AllReadyH.nil))
      ·skip
       go_simp
       refine (HCK.out y1 (hb1)).mono ?_
       rintro e y2 ⟨rfl, hb⟩
       have hb2 : Below Y.heap.size Y y2 := keeps (hb1) hb
       clear hb
       go_wp2_with fail
       refine hK.out _ _ (hb2) (fun hHeld => ?_)
       clear hK K
       try simp only [Act.put, x_A, x_0, x_1]
       refine x_t (i := 5) (oi := { dst := some 22, op := .move (.tmp 27), .. }) (v := ?_) rfl (Or.inl ⟨by rfl, ?_⟩) ?_
       rotate_left 1
       ·intro v hSv
        clear hSv
        go_simp
        try with_reducible rfl
       try simp only [Act.put, x_A, x_0, x_1]
       refine x_t (i := 6) (oi := { dst := some 28, op := .extract (.tmp 22) 0, .. }) (v := ?_) rfl (Or.inl ⟨by rfl, ?_⟩) ?_
       rotate_left 1
       ·intro v hSv
        clear hSv
        go_simp
        try with_reducible rfl
       try simp only [Act.put, x_A, x_0, x_1]
       refine x_t (i := 7) (oi := { dst := some 29, op := .extract (.tmp 22) 1, .. }) (v := ?_) rfl (Or.inl ⟨by rfl, ?_⟩) ?_
       rotate_left 1
       ·intro v hSv
        clear hSv
        go_simp
        try with_reducible rfl
       try simp only [Act.put, x_A, x_0, x_1]
       refine wpAnyH_ready (rs := [8]) (by kernel_rfl) (by simp) ?_
       refine AllReadyH.cons (o := { dst := some 8, op := .alloc _, .. }) rfl (fun K hK => ?_) AllReadyH.nil
       go_simp
       refine hK.out _ _ (made_bel (hb2) _) (fun hHeld => ?_)
       clear hK K
       try simp only [Act.put, x_A, x_0, x_1]
       refine wpAnyH_ready (rs := [9]) (by kernel_rfl) (by simp) ?_
       refine AllReadyH.cons (o := { dst := none, op := .store _ (.tmp 8) (.tmp 28), .. }) rfl (fun K hK => ?_) AllReadyH.nil
       have hz9 : (y2.alloc (.cells (Bt.kc Bt.kz) 40)).heap[y2.heap.size]? = some (.cells (Bt.kc Bt.kz) 40 (0, 0)) := (heap_alloc_new y2 _)
       have st1 := stKey13_old (k := q) hz9 (Bt.kc_size _) HQ.out
       have HG8 := Lib.hid (setRow_heap (y2.alloc (.cells (Bt.kc Bt.kz) 40)) y2.heap.size _ (bA q) _ _ hz9)
       clear hz9
       go_simp
       refine hK.out _ _ (below_row13 (made_bel (hb2) _) ((hb2).size) _) (fun hHeld => ?_)
       clear hK K
       try simp only [Act.put, x_A, x_0, x_1]
       refine x_t (i := 10) (oi := { dst := some 9, op := .assign (.tmp 29), .. }) (v := ?_) rfl (Or.inl ⟨by rfl, ?_⟩) ?_
       rotate_left 1
       ·intro v hSv
        clear hSv
        go_simp
        try with_reducible rfl
       try simp only [Act.put, x_A, x_0, x_1]
       refine wpAnyH_done (by kernel_rfl) ?_ _
       obtain ⟨V, hV⟩ : ∃ V, V = ((y2.alloc (.cells (Bt.kc Bt.kz) 40)).setRow y2.heap.size (bA q)) := ⟨_, rfl⟩
       have HBV : Hid (Below Y.heap.size Y V) := by rw [hV]; exact (below_row13 (made_bel (hb2) _) ((hb2).size) _)
       have HGV : Hid (V.heap[y2.heap.size]? = some (.cells (bA q) 40 (0, 0))) := by rw [hV]; exact HG8.out
       have lk8 := ldKey13 HGV.out HQ.out
       have lo := (HSN.out.below HBV.out).look HQ.out
       rw [HSE.out] at lo
       rw [hV] at lo lk8
       have HV := Lib.hid hV
       clear hV
       go_wp2_with fail
       rw [← HV.out]
       refine (wrap_ok (opB applyB) (m : Int) V).mono ?_
       rintro _ z1 ⟨rfl, hB⟩
       have HBZ : Hid (Below Y.heap.size Y z1) := HBV.out.trans (hB.mono HBV.out.size)
       have HGZ : Hid (z1.heap[y2.heap.size]? = some (.cells (bA q) 40 (0, 0))) := (hB.block _ (lt_of_heap HGV.out)).trans HGV.out
       have lk9 := ldKey13 HGZ.out HQ.out
       have HSZ := Lib.hid (HSN.out.below HBZ.out)
       have HNE8 : Hid (¬ y2.heap.size = w.heap.size + 1) := by have h1 := HSLT.out; have h2 := (hb2).size; show ¬ _; omega
       clear hB
       go_wp2_with (first | (at_mapUpdate; refine wpList_see _ rfl _ _ _ rfl (w.heap.size + 1) (ps.map Pl.k) rfl HSZ.out HLK.out q HQ.out rfl rfl ?_; intro w9 hS9 hK9; have lk10 := ldKey13 (hK9.heap HGZ.out HNE8.out) HQ.out; have HS9 := Lib.hid hS9; have HK9 := Lib.hid hK9; have HO9 := Lib.hid (HI.out.row9 HBWY.out HBZ.out hK9); have hsz9 : w.heap.size ≤ w9.heap.size := HI.out.size9 HBWY.out HBZ.out hK9; have HSZ9 := Lib.hid hsz9; have bs := bsPl_one pp w9; clear hS9 hK9 hsz9) | (at_builtin; refine wpList_pushPl rfl _ _ rfl w.heap.size _ ps rfl (OwnPl.below HO9.out ((Below.refl _ _).alloc (Nat.le_refl _) _)) w9.heap.size pp rfl (pl_made w9 pp _) HLP.out (Nat.le_trans HSZ9.out ((Below.refl _ _).alloc (Nat.le_refl _) _).size) ?_; intro v' w10 hO10 hG10; have HO10 := Lib.hid hO10; have HG10 := Lib.hid hG10; clear hO10 hG10))
       go_roundg (us.length - (m + 1))
       case measure => omega
       case rel => exact ⟨m + 1, ps ++ [pp], by go_num, by omega, rfl, HI.out.step HBWY.out HBZ.out (by rw [← HS9k.out]; exact HS9.out) HK9.out ((Below.refl _ _).alloc (Nat.le_refl _) _) HO10.out HG10.out HPI.out HX.out HPK.out HOKB.out⟩
      ·skip
       go_simp
       refine hK.out _ _ (made_bel (hb1) _) (fun hHeld => ?_)
       clear hK K
       try simp only [Act.put, x_A, x_0, x_1]
       refine wpAnyH_ready (rs := [4]) (by kernel_rfl) (by simp) ?_
       refine AllReadyH.cons (o := { dst := some 27, op := .call _, .. }) rfl (fun K hK => ?_) AllReadyH.nil
       go_simp
       refine (HCK.out (y1.alloc (.cells (Bt.kc Bt.kz) 40)) (made_bel (hb1) _)).mono ?_
       rintro e y3 ⟨rfl, hb⟩
       have hb3 : Below Y.heap.size Y y3 := keeps (made_bel (hb1) _) hb
       have HG8 := Lib.hid ((hb.block _ (lt_of_heap (heap_alloc_new y1 _))).trans (heap_alloc_new y1 _))
       clear hb
       go_wp2_with fail
       refine hK.out _ _ (hb3) (fun hHeld => ?_)
       clear hK K
       try simp only [Act.put, x_A, x_0, x_1]
       refine x_t (i := 5) (oi := { dst := some 22, op := .move (.tmp 27), .. }) (v := ?_) rfl (Or.inl ⟨by rfl, ?_⟩) ?_
       rotate_left 1
       ·intro v hSv
        clear hSv
        go_simp
        try with_reducible rfl
       try simp only [Act.put, x_A, x_0, x_1]
       refine x_t (i := 6) (oi := { dst := some 28, op := .extract (.tmp 22) 0, .. }) (v := ?_) rfl (Or.inl ⟨by rfl, ?_⟩) ?_
       rotate_left 1
       ·intro v hSv
        clear hSv
        go_simp
        try with_reducible rfl
       try simp only [Act.put, x_A, x_0, x_1]
       refine x_t (i := 7) (oi := { dst := some 29, op := .extract (.tmp 22) 1, .. }) (v := ?_) rfl (Or.inl ⟨by rfl, ?_⟩) ?_
       rotate_left 1
       ·intro v hSv
        clear hSv
        go_simp
        try with_reducible rfl
       try simp only [Act.put, x_A, x_0, x_1]
       refine wpAnyH_ready (rs := [9]) (by kernel_rfl) (by simp) ?_
       refine AllReadyH.cons (o := { dst := none, op := .store _ (.tmp 8) (.tmp 28), .. }) rfl (fun K hK => ?_) AllReadyH.nil
       have hz9 : y3.heap[y1.heap.size]? = some (.cells (Bt.kc Bt.kz) 40 (0, 0)) := HG8.out
       have st1 := stKey13_old (k := q) hz9 (Bt.kc_size _) HQ.out
       have HG8 := Lib.hid (setRow_heap y3 y1.heap.size _ (bA q) _ _ hz9)
       clear hz9
       go_simp
       refine hK.out _ _ (below_row13 (hb3) ((hb1).size) _) (fun hHeld => ?_)
       clear hK K
       try simp only [Act.put, x_A, x_0, x_1]
       refine x_t (i := 10) (oi := { dst := some 9, op := .assign (.tmp 29), .. }) (v := ?_) rfl (Or.inl ⟨by rfl, ?_⟩) ?_
       rotate_left 1
       ·intro v hSv
        clear hSv
        go_simp
        try with_reducible rfl
       try simp only [Act.put, x_A, x_0, x_1]
       refine wpAnyH_done (by kernel_rfl) ?_ _
       obtain ⟨V, hV⟩ : ∃ V, V = (y3.setRow y1.heap.size (bA q)) := ⟨_, rfl⟩
       have HBV : Hid (Below Y.heap.size Y V) := by rw [hV]; exact (below_row13 (hb3) ((hb1).size) _)
       have HGV : Hid (V.heap[y1.heap.size]? = some (.cells (bA q) 40 (0, 0))) := by rw [hV]; exact HG8.out
       have lk8 := ldKey13 HGV.out HQ.out
       have lo := (HSN.out.below HBV.out).look HQ.out
       rw [HSE.out] at lo
       rw [hV] at lo lk8
       have HV := Lib.hid hV
       clear hV
       go_wp2_with fail
       rw [← HV.out]
       refine (wrap_ok (opB applyB) (m : Int) V).mono ?_
       rintro _ z1 ⟨rfl, hB⟩
       have HBZ : Hid (Below Y.heap.size Y z1) := HBV.out.trans (hB.mono HBV.out.size)
       have HGZ : Hid (z1.heap[y1.heap.size]? = some (.cells (bA q) 40 (0, 0))) := (hB.block _ (lt_of_heap HGV.out)).trans HGV.out
       have lk9 := ldKey13 HGZ.out HQ.out
       have HSZ := Lib.hid (HSN.out.below HBZ.out)
       have HNE8 : Hid (¬ y1.heap.size = w.heap.size + 1) := by have h1 := HSLT.out; have h2 := (hb1).size; show ¬ _; omega
       clear hB
       go_wp2_with (first | (at_mapUpdate; refine wpList_see _ rfl _ _ _ rfl (w.heap.size + 1) (ps.map Pl.k) rfl HSZ.out HLK.out q HQ.out rfl rfl ?_; intro w9 hS9 hK9; have lk10 := ldKey13 (hK9.heap HGZ.out HNE8.out) HQ.out; have HS9 := Lib.hid hS9; have HK9 := Lib.hid hK9; have HO9 := Lib.hid (HI.out.row9 HBWY.out HBZ.out hK9); have hsz9 : w.heap.size ≤ w9.heap.size := HI.out.size9 HBWY.out HBZ.out hK9; have HSZ9 := Lib.hid hsz9; have bs := bsPl_one pp w9; clear hS9 hK9 hsz9) | (at_builtin; refine wpList_pushPl rfl _ _ rfl w.heap.size _ ps rfl (OwnPl.below HO9.out ((Below.refl _ _).alloc (Nat.le_refl _) _)) w9.heap.size pp rfl (pl_made w9 pp _) HLP.out (Nat.le_trans HSZ9.out ((Below.refl _ _).alloc (Nat.le_refl _) _).size) ?_; intro v' w10 hO10 hG10; have HO10 := Lib.hid hO10; have HG10 := Lib.hid hG10; clear hO10 hG10))
       go_roundg (us.length - (m + 1))
       case measure => omega
       case rel => exact ⟨m + 1, ps ++ [pp], by go_num, by omega, rfl, HI.out.step HBWY.out HBZ.out (by rw [← HS9k.out]; exact HS9.out) HK9.out ((Below.refl _ _).alloc (Nat.le_refl _) _) HO10.out HG10.out HPI.out HX.out HPK.out HOKB.out⟩
     ·skip
      go_simp
      refine hK.out _ _ (made_bel (hb0) _) (fun hHeld => ?_)
      clear hK K
      try simp only [Act.put, x_A, x_0, x_1]
      refine wpAnyH_ready (rs := [3]) (by kernel_rfl) (by simp) ?_
      refine AllReadyH.cons (o := { dst := some 26, op := .call _, .. }) rfl (fun K hK => ?_) AllReadyH.nil
      go_simp
      refine (HVO.out (Y.drew.alloc (.cells (Bt.kc Bt.kz) 40))).mono ?_
      rintro e y4 ⟨rfl, hb⟩
      have hb4 : Below Y.heap.size Y y4 := keeps (made_bel (hb0) _) hb
      have HG8 := Lib.hid ((hb.block _ (lt_of_heap (heap_alloc_new Y.drew _))).trans (heap_alloc_new Y.drew _))
      clear hb
      go_wp2_with fail
      refine hK.out _ _ (hb4) (fun hHeld => ?_)
      clear hK K
      try simp only [Act.put, x_A, x_0, x_1]
      refine wpAnyH_ready (rs := [4]) (by kernel_rfl) (by simp) ?_
      refine AllReadyH.cons (o := { dst := some 27, op := .call _, .. }) rfl (fun K hK => ?_) AllReadyH.nil
      go_simp
      refine (HCK.out y4 (hb4)).mono ?_
      rintro e y5 ⟨rfl, hb⟩
      have hb5 : Below Y.heap.size Y y5 := keeps (hb4) hb
      have HG8 := Lib.hid ((hb.block _ (lt_of_heap HG8.out)).trans HG8.out)
      clear hb
      go_wp2_with fail
      refine hK.out _ _ (hb5) (fun hHeld => ?_)
      clear hK K
      try simp only [Act.put, x_A, x_0, x_1]
      refine x_t (i := 5) (oi := { dst := some 22, op := .move (.tmp 27), .. }) (v := ?_) rfl (Or.inl ⟨by rfl, ?_⟩) ?_
      rotate_left 1
      ·intro v hSv
       clear hSv
       go_simp
       try with_reducible rfl
      try simp only [Act.put, x_A, x_0, x_1]
      refine x_t (i := 6) (oi := { dst := some 28, op := .extract (.tmp 22) 0, .. }) (v := ?_) rfl (Or.inl ⟨by rfl, ?_⟩) ?_
      rotate_left 1
      ·intro v hSv
       clear hSv
       go_simp
       try with_reducible rfl
      try simp only [Act.put, x_A, x_0, x_1]
      refine x_t (i := 7) (oi := { dst := some 29, op := .extract (.tmp 22) 1, .. }) (v := ?_) rfl (Or.inl ⟨by rfl, ?_⟩) ?_
      rotate_left 1
      ·intro v hSv
       clear hSv
       go_simp
       try with_reducible rfl
      try simp only [Act.put, x_A, x_0, x_1]
      refine wpAnyH_ready (rs := [9]) (by kernel_rfl) (by simp) ?_
      refine AllReadyH.cons (o := { dst := none, op := .store _ (.tmp 8) (.tmp 28), .. }) rfl (fun K hK => ?_) AllReadyH.nil
      have hz9 : y5.heap[Y.heap.size]? = some (.cells (Bt.kc Bt.kz) 40 (0, 0)) := HG8.out
      have st1 := stKey13_old (k := q) hz9 (Bt.kc_size _) HQ.out
      have HG8 := Lib.hid (setRow_heap y5 Y.heap.size _ (bA q) _ _ hz9)
      clear hz9
      go_simp
      refine hK.out _ _ (below_row13 (hb5) ((hb0).size) _) (fun hHeld => ?_)
      clear hK K
      try simp only [Act.put, x_A, x_0, x_1]
      refine x_t (i := 10) (oi := { dst := some 9, op := .assign (.tmp 29), .. }) (v := ?_) rfl (Or.inl ⟨by rfl, ?_⟩) ?_
      rotate_left 1
      ·intro v hSv
       clear hSv
       go_simp
       try with_reducible rfl
      try simp only [Act.put, x_A, x_0, x_1]
      refine wpAnyH_done (by kernel_rfl) ?_ _
      obtain ⟨V, hV⟩ : ∃ V, V = (y5.setRow Y.heap.size (bA q)) := ⟨_, rfl⟩
      have HBV : Hid (Below Y.heap.size Y V) := by rw [hV]; exact (below_row13 (hb5) ((hb0).size) _)
      have HGV : Hid (V.heap[Y.heap.size]? = some (.cells (bA q) 40 (0, 0))) := by rw [hV]; exact HG8.out
      have lk8 := ldKey13 HGV.out HQ.out
      have lo := (HSN.out.below HBV.out).look HQ.out
      rw [HSE.out] at lo
      rw [hV] at lo lk8
      have HV := Lib.hid hV
      clear hV
      go_wp2_with fail
      rw [← HV.out]
      refine (wrap_ok (opB applyB) (m : Int) V).mono ?_
      rintro _ z1 ⟨rfl, hB⟩
      have HBZ : Hid (Below Y.heap.size Y z1) := HBV.out.trans (hB.mono HBV.out.size)
      have HGZ : Hid (z1.heap[Y.heap.size]? = some (.cells (bA q) 40 (0, 0))) := (hB.block _ (lt_of_heap HGV.out)).trans HGV.out
      have lk9 := ldKey13 HGZ.out HQ.out
      have HSZ := Lib.hid (HSN.out.below HBZ.out)
      have HNE8 : Hid (¬ Y.heap.size = w.heap.size + 1) := by have h1 := HSLT.out; have h2 := (hb0).size; show ¬ _; omega
      clear hB
      go_wp2_with (first | (at_mapUpdate; refine wpList_see _ rfl _ _ _ rfl (w.heap.size + 1) (ps.map Pl.k) rfl HSZ.out HLK.out q HQ.out rfl rfl ?_; intro w9 hS9 hK9; have lk10 := ldKey13 (hK9.heap HGZ.out HNE8.out) HQ.out; have HS9 := Lib.hid hS9; have HK9 := Lib.hid hK9; have HO9 := Lib.hid (HI.out.row9 HBWY.out HBZ.out hK9); have hsz9 : w.heap.size ≤ w9.heap.size := HI.out.size9 HBWY.out HBZ.out hK9; have HSZ9 := Lib.hid hsz9; have bs := bsPl_one pp w9; clear hS9 hK9 hsz9) | (at_builtin; refine wpList_pushPl rfl _ _ rfl w.heap.size _ ps rfl (OwnPl.below HO9.out ((Below.refl _ _).alloc (Nat.le_refl _) _)) w9.heap.size pp rfl (pl_made w9 pp _) HLP.out (Nat.le_trans HSZ9.out ((Below.refl _ _).alloc (Nat.le_refl _) _).size) ?_; intro v' w10 hO10 hG10; have HO10 := Lib.hid hO10; have HG10 := Lib.hid hG10; clear hO10 hG10))
      go_roundg (us.length - (m + 1))
      case measure => omega
      case rel => exact ⟨m + 1, ps ++ [pp], by go_num, by omega, rfl, HI.out.step HBWY.out HBZ.out (by rw [← HS9k.out]; exact HS9.out) HK9.out ((Below.refl _ _).alloc (Nat.le_refl _) _) HO10.out HG10.out HPI.out HX.out HPK.out HOKB.out⟩
   ·have HE : Hid (E ≠ 0) := he
    have d1 : (E == 0) = false := beq_eq_false_iff_ne.2 he
    have HCF : Hid (checkU (us.map Un.up) = (m, E)) := by
     have h9 := badU_right HX.out (by rw [← HEE.out]; exact he)
     show _ = _
     rw [checkU_at (by rw [List.length_map]; omega) HI.out.ok (by rw [h9, ← HEE.out]; exact he), h9, ← HEE.out]
    have HYY := Lib.hid hY
    clear hx hok hr hr2 hok2 hY hY1 hyb hVA hVE hV0 hE hq he
    go_wp2_with fail
    rw [← HYY.out]
    refine wp_region_held_drew (S := fun w' => Below Y.heap.size Y w') (by kernel_rfl) ((Below.refl _ _).drew) (fun hHeld => ?_)
    have hb0 : Below Y.heap.size Y Y.drew := (Below.refl _ _).drew
    refine x_t (i := 0) (oi := { dst := some 23, op := .fieldAddr _ (.tmp 7) 0, .. }) (v := ?_) rfl (Or.inl ⟨by rfl, ?_⟩) ?_
    rotate_left 1
    ·intro v hSv
     clear hSv
     go_simp
     try with_reducible rfl
    try simp only [Act.put, x_A, x_0, x_1]
    refine x_t (i := 1) (oi := { dst := some 24, op := .load _ (.tmp 23), .. }) (v := ?_) rfl (Or.inl ⟨by rfl, ?_⟩) ?_
    rotate_left 1
    ·intro v hSv
     have hv1 := LY.out v hSv |>.1
     clear hSv
     go_simp
     try with_reducible rfl
    try simp only [Act.put, x_A, x_0, x_1]
    refine x_t (i := 2) (oi := { dst := some 25, op := .load _ (.tmp 7), .. }) (v := ?_) rfl (Or.inl ⟨by rfl, ?_⟩) ?_
    rotate_left 1
    ·intro v hSv
     have hv1 := LY.out v hSv
     clear hSv
     go_simp
     try with_reducible rfl
    try simp only [Act.put, x_A, x_0, x_1]
    refine wpAnyH_ready (rs := [3, 8]) (by kernel_rfl) (by simp) ?_
    refine AllReadyH.cons (o := { dst := some 26, op := .call _, .. }) rfl (fun K hK => ?_) (AllReadyH.cons (o := { dst := some 8, op := .alloc _, .. }) rfl (fun K hK => ?_) (AllReadyH.nil))
    ·skip
     go_simp
     refine (HVO.out Y.drew).mono ?_
     rintro e y1 ⟨rfl, hb⟩
     have hb1 : Below Y.heap.size Y y1 := keeps (hb0) hb
     clear hb
     go_wp2_with fail
     refine hK.out _ _ (hb1) (fun hHeld => ?_)
     clear hK K
     try simp only [Act.put, x_A, x_0, x_1]
     refine wpAnyH_ready (rs := [4, 8]) (by kernel_rfl) (by simp) ?_
     refine AllReadyH.cons (o := { dst := some 27, op := .call _, .. }) rfl (fun K hK => ?_) (AllReadyH.cons (o := { dst := some 8, op := .alloc _, .. }) rfl (fun K hK => ?_) (AllReadyH.nil))
     ·skip
      go_simp
      refine (HCK.out y1 (hb1)).mono ?_
      rintro e y2 ⟨rfl, hb⟩
      have hb2 : Below Y.heap.size Y y2 := keeps (hb1) hb
      clear hb
      go_wp2_with fail
      refine hK.out _ _ (hb2) (fun hHeld => ?_)
      clear hK K
      try simp only [Act.put, x_A, x_0, x_1]
      refine x_t (i := 5) (oi := { dst := some 22, op := .move (.tmp 27), .. }) (v := ?_) rfl (Or.inl ⟨by rfl, ?_⟩) ?_
      rotate_left 1
      ·intro v hSv
       clear hSv
       go_simp
       try with_reducible rfl
      try simp only [Act.put, x_A, x_0, x_1]
      refine x_t (i := 6) (oi := { dst := some 28, op := .extract (.tmp 22) 0, .. }) (v := ?_) rfl (Or.inl ⟨by rfl, ?_⟩) ?_
      rotate_left 1
      ·intro v hSv
       clear hSv
       go_simp
       try with_reducible rfl
      try simp only [Act.put, x_A, x_0, x_1]
      refine x_t (i := 7) (oi := { dst := some 29, op := .extract (.tmp 22) 1, .. }) (v := ?_) rfl (Or.inl ⟨by rfl, ?_⟩) ?_
      rotate_left 1
      ·intro v hSv
       clear hSv
       go_simp
       try with_reducible rfl
      try simp only [Act.put, x_A, x_0, x_1]
      refine wpAnyH_ready (rs := [8]) (by kernel_rfl) (by simp) ?_
      refine AllReadyH.cons (o := { dst := some 8, op := .alloc _, .. }) rfl (fun K hK => ?_) AllReadyH.nil
      go_simp
      refine hK.out _ _ (made_bel (hb2) _) (fun hHeld => ?_)
      clear hK K
      try simp only [Act.put, x_A, x_0, x_1]
      refine wpAnyH_ready (rs := [9]) (by kernel_rfl) (by simp) ?_
      refine AllReadyH.cons (o := { dst := none, op := .store _ (.tmp 8) (.tmp 28), .. }) rfl (fun K hK => ?_) AllReadyH.nil
      have hz9 : (y2.alloc (.cells (Bt.kc Bt.kz) 40)).heap[y2.heap.size]? = some (.cells (Bt.kc Bt.kz) 40 (0, 0)) := (heap_alloc_new y2 _)
      have st1 := stKey13_old (k := q) hz9 (Bt.kc_size _) HQ.out
      have HG8 := Lib.hid (setRow_heap (y2.alloc (.cells (Bt.kc Bt.kz) 40)) y2.heap.size _ (bA q) _ _ hz9)
      clear hz9
      go_simp
      refine hK.out _ _ (below_row13 (made_bel (hb2) _) ((hb2).size) _) (fun hHeld => ?_)
      clear hK K
      try simp only [Act.put, x_A, x_0, x_1]
      refine x_t (i := 10) (oi := { dst := some 9, op := .assign (.tmp 29), .. }) (v := ?_) rfl (Or.inl ⟨by rfl, ?_⟩) ?_
      rotate_left 1
      ·intro v hSv
       clear hSv
       go_simp
       try with_reducible rfl
      try simp only [Act.put, x_A, x_0, x_1]
      refine wpAnyH_done (by kernel_rfl) ?_ _
      obtain ⟨V, hV⟩ : ∃ V, V = ((y2.alloc (.cells (Bt.kc Bt.kz) 40)).setRow y2.heap.size (bA q)) := ⟨_, rfl⟩
      have HBV : Hid (Below Y.heap.size Y V) := by rw [hV]; exact (below_row13 (made_bel (hb2) _) ((hb2).size) _)
      have HGV : Hid (V.heap[y2.heap.size]? = some (.cells (bA q) 40 (0, 0))) := by rw [hV]; exact HG8.out
      have lk8 := ldKey13 HGV.out HQ.out
      rw [hV] at lk8
      have HV := Lib.hid hV
      clear hV
      go_wp2_with fail
      rw [← HV.out]
      refine (wrap_no (opB applyB) (m : Int) E HE.out V).mono ?_
      rintro _ z1 ⟨b9, rfl, hWG, hB⟩
      have HWG := Lib.hid hWG
      have HBF := Lib.hid (HBY.out.trans ((HBV.out.trans (hB.mono HBV.out.size)).mono HBY.out.size))
      clear hWG hB
      go_wp2_with fail
      go_ret2
      exact sorted_err HCF.out HE.out HWG.out HBF.out
     ·skip
      go_simp
      refine hK.out _ _ (made_bel (hb1) _) (fun hHeld => ?_)
      clear hK K
      try simp only [Act.put, x_A, x_0, x_1]
      refine wpAnyH_ready (rs := [4]) (by kernel_rfl) (by simp) ?_
      refine AllReadyH.cons (o := { dst := some 27, op := .call _, .. }) rfl (fun K hK => ?_) AllReadyH.nil
      go_simp
      refine (HCK.out (y1.alloc (.cells (Bt.kc Bt.kz) 40)) (made_bel (hb1) _)).mono ?_
      rintro e y3 ⟨rfl, hb⟩
      have hb3 : Below Y.heap.size Y y3 := keeps (made_bel (hb1) _) hb
      have HG8 := Lib.hid ((hb.block _ (lt_of_heap (heap_alloc_new y1 _))).trans (heap_alloc_new y1 _))
      clear hb
      go_wp2_with fail
      refine hK.out _ _ (hb3) (fun hHeld => ?_)
      clear hK K
      try simp only [Act.put, x_A, x_0, x_1]
      refine x_t (i := 5) (oi := { dst := some 22, op := .move (.tmp 27), .. }) (v := ?_) rfl (Or.inl ⟨by rfl, ?_⟩) ?_
      rotate_left 1
      ·intro v hSv
       clear hSv
       go_simp
       try with_reducible rfl
      try simp only [Act.put, x_A, x_0, x_1]
      refine x_t (i := 6) (oi := { dst := some 28, op := .extract (.tmp 22) 0, .. }) (v := ?_) rfl (Or.inl ⟨by rfl, ?_⟩) ?_
      rotate_left 1
      ·intro v hSv
       clear hSv
       go_simp
       try with_reducible rfl
      try simp only [Act.put, x_A, x_0, x_1]
      refine x_t (i := 7) (oi := { dst := some 29, op := .extract (.tmp 22) 1, .. }) (v := ?_) rfl (Or.inl ⟨by rfl, ?_⟩) ?_
      rotate_left 1
      ·intro v hSv
       clear hSv
       go_simp
       try with_reducible rfl
      try simp only [Act.put, x_A, x_0, x_1]
      refine wpAnyH_ready (rs := [9]) (by kernel_rfl) (by simp) ?_
      refine AllReadyH.cons (o := { dst := none, op := .store _ (.tmp 8) (.tmp 28), .. }) rfl (fun K hK => ?_) AllReadyH.nil
      have hz9 : y3.heap[y1.heap.size]? = some (.cells (Bt.kc Bt.kz) 40 (0, 0)) := HG8.out
      have st1 := stKey13_old (k := q) hz9 (Bt.kc_size _) HQ.out
      have HG8 := Lib.hid (setRow_heap y3 y1.heap.size _ (bA q) _ _ hz9)
      clear hz9
      go_simp
      refine hK.out _ _ (below_row13 (hb3) ((hb1).size) _) (fun hHeld => ?_)
      clear hK K
      try simp only [Act.put, x_A, x_0, x_1]
      refine x_t (i := 10) (oi := { dst := some 9, op := .assign (.tmp 29), .. }) (v := ?_) rfl (Or.inl ⟨by rfl, ?_⟩) ?_
      rotate_left 1
      ·intro v hSv
       clear hSv
       go_simp
       try with_reducible rfl
      try simp only [Act.put, x_A, x_0, x_1]
      refine wpAnyH_done (by kernel_rfl) ?_ _
      obtain ⟨V, hV⟩ : ∃ V, V = (y3.setRow y1.heap.size (bA q)) := ⟨_, rfl⟩
      have HBV : Hid (Below Y.heap.size Y V) := by rw [hV]; exact (below_row13 (hb3) ((hb1).size) _)
      have HGV : Hid (V.heap[y1.heap.size]? = some (.cells (bA q) 40 (0, 0))) := by rw [hV]; exact HG8.out
      have lk8 := ldKey13 HGV.out HQ.out
      rw [hV] at lk8
      have HV := Lib.hid hV
      clear hV
      go_wp2_with fail
      rw [← HV.out]
      refine (wrap_no (opB applyB) (m : Int) E HE.out V).mono ?_
      rintro _ z1 ⟨b9, rfl, hWG, hB⟩
      have HWG := Lib.hid hWG
      have HBF := Lib.hid (HBY.out.trans ((HBV.out.trans (hB.mono HBV.out.size)).mono HBY.out.size))
      clear hWG hB
      go_wp2_with fail
      go_ret2
      exact sorted_err HCF.out HE.out HWG.out HBF.out
    ·skip
     go_simp
     refine hK.out _ _ (made_bel (hb0) _) (fun hHeld => ?_)
     clear hK K
     try simp only [Act.put, x_A, x_0, x_1]
     refine wpAnyH_ready (rs := [3]) (by kernel_rfl) (by simp) ?_
     refine AllReadyH.cons (o := { dst := some 26, op := .call _, .. }) rfl (fun K hK => ?_) AllReadyH.nil
     go_simp
     refine (HVO.out (Y.drew.alloc (.cells (Bt.kc Bt.kz) 40))).mono ?_
     rintro e y4 ⟨rfl, hb⟩
     have hb4 : Below Y.heap.size Y y4 := keeps (made_bel (hb0) _) hb
     have HG8 := Lib.hid ((hb.block _ (lt_of_heap (heap_alloc_new Y.drew _))).trans (heap_alloc_new Y.drew _))
     clear hb
     go_wp2_with fail
     refine hK.out _ _ (hb4) (fun hHeld => ?_)
     clear hK K
     try simp only [Act.put, x_A, x_0, x_1]
     refine wpAnyH_ready (rs := [4]) (by kernel_rfl) (by simp) ?_
     refine AllReadyH.cons (o := { dst := some 27, op := .call _, .. }) rfl (fun K hK => ?_) AllReadyH.nil
     go_simp
     refine (HCK.out y4 (hb4)).mono ?_
     rintro e y5 ⟨rfl, hb⟩
     have hb5 : Below Y.heap.size Y y5 := keeps (hb4) hb
     have HG8 := Lib.hid ((hb.block _ (lt_of_heap HG8.out)).trans HG8.out)
     clear hb
     go_wp2_with fail
     refine hK.out _ _ (hb5) (fun hHeld => ?_)
     clear hK K
     try simp only [Act.put, x_A, x_0, x_1]
     refine x_t (i := 5) (oi := { dst := some 22, op := .move (.tmp 27), .. }) (v := ?_) rfl (Or.inl ⟨by rfl, ?_⟩) ?_
     rotate_left 1
     ·intro v hSv
      clear hSv
      go_simp
      try with_reducible rfl
     try simp only [Act.put, x_A, x_0, x_1]
     refine x_t (i := 6) (oi := { dst := some 28, op := .extract (.tmp 22) 0, .. }) (v := ?_) rfl (Or.inl ⟨by rfl, ?_⟩) ?_
     rotate_left 1
     ·intro v hSv
      clear hSv
      go_simp
      try with_reducible rfl
     try simp only [Act.put, x_A, x_0, x_1]
     refine x_t (i := 7) (oi := { dst := some 29, op := .extract (.tmp 22) 1, .. }) (v := ?_) rfl (Or.inl ⟨by rfl, ?_⟩) ?_
     rotate_left 1
     ·intro v hSv
      clear hSv
      go_simp
      try with_reducible rfl
     try simp only [Act.put, x_A, x_0, x_1]
     refine wpAnyH_ready (rs := [9]) (by kernel_rfl) (by simp) ?_
     refine AllReadyH.cons (o := { dst := none, op := .store _ (.tmp 8) (.tmp 28), .. }) rfl (fun K hK => ?_) AllReadyH.nil
     have hz9 : y5.heap[Y.heap.size]? = some (.cells (Bt.kc Bt.kz) 40 (0, 0)) := HG8.out
     have st1 := stKey13_old (k := q) hz9 (Bt.kc_size _) HQ.out
     have HG8 := Lib.hid (setRow_heap y5 Y.heap.size _ (bA q) _ _ hz9)
     clear hz9
     go_simp
     refine hK.out _ _ (below_row13 (hb5) ((hb0).size) _) (fun hHeld => ?_)
     clear hK K
     try simp only [Act.put, x_A, x_0, x_1]
     refine x_t (i := 10) (oi := { dst := some 9, op := .assign (.tmp 29), .. }) (v := ?_) rfl (Or.inl ⟨by rfl, ?_⟩) ?_
     rotate_left 1
     ·intro v hSv
      clear hSv
      go_simp
      try with_reducible rfl
     try simp only [Act.put, x_A, x_0, x_1]
     refine wpAnyH_done (by kernel_rfl) ?_ _
     obtain ⟨V, hV⟩ : ∃ V, V = (y5.setRow Y.heap.size (bA q)) := ⟨_, rfl⟩
     have HBV : Hid (Below Y.heap.size Y V) := by rw [hV]; exact (below_row13 (hb5) ((hb0).size) _)
     have HGV : Hid (V.heap[Y.heap.size]? = some (.cells (bA q) 40 (0, 0))) := by rw [hV]; exact HG8.out
     have lk8 := ldKey13 HGV.out HQ.out
     rw [hV] at lk8
     have HV := Lib.hid hV
     clear hV
     go_wp2_with fail
     rw [← HV.out]
     refine (wrap_no (opB applyB) (m : Int) E HE.out V).mono ?_
     rintro _ z1 ⟨b9, rfl, hWG, hB⟩
     have HWG := Lib.hid hWG
     have HBF := Lib.hid (HBY.out.trans ((HBV.out.trans (hB.mono HBV.out.size)).mono HBY.out.size))
     clear hWG hB
     go_wp2_with fail
     go_ret2
     exact sorted_err HCF.out HE.out HWG.out HBF.out
  ·obtain rfl : m = us.length := by omega
   have hd : decide (us.length < us.length) = false := decide_eq_false (by omega)
   have HCF : Hid (checkU (us.map Un.up) = (0, 0)) := checkU_no fun j hj => HI.out.ok j (by rw [List.length_map] at hj; exact hj)
   have HPL : Hid (Pls (us.map Un.up) ps) := pls_made (by rw [HI.out.len, List.length_map]) HI.out.at_
   obtain ⟨P, cP, rfl⟩ := HI.out.row.slice
   have HSO := Lib.hid (sortPl_c P cP ps w.heap.size wr HI.out.row HI.out.bel.size (by rw [HI.out.len]; omega))
   go_wp2_with fail
   refine HSO.out.mono ?_
   rintro _ z1 ⟨rfl, m', hp, hs, hPA, hB⟩
   have HFI : Hid (∀ n, ps.length = n → SortedPost us w (.returned (.tuple #[.slice P n cP, .nilIface])) z1) := fun n hn => sorted_fine HCF.out (by rw [hp.length_eq]; exact hn) hPA (HPL.out.perm hp) (hs.imp fun h => by omega) (HI.out.bel.trans hB)
   clear hp hs hPA hB HSO
   go_wp2_with fail
   go_ret2
   exact HFI.out _ rfl
end
section
open Go.RowKit
theorem keep_cells13 (g : Nat) : ∀ (vs : List Value) (o : Nat) (w : World), Keep (fun i => i = g) w (w.setCells g o vs)
 | [], _, w => Keep.refl _ w
 | v :: vs, o, w => by
  rw [World.setCells]
  exact (Keep.cell w ⟨g, o, none⟩ v).trans (keep_cells13 g vs (o + 1) _)
theorem bldCb3_f (f : Nat → UInt8) (A : Option Addr) (n c : Nat) (d : Bool) (w : World) : bldA 164 w #[(0, .agg (bA ((List.range 32).map f))), (1, .slice A n c), (2, .bool d)] = .ok (.value (.agg (((List.range 32).map f).map bv ++ [Value.slice A n c, Value.bool d]).toArray)) w := by kernel_rfl
theorem bldCb3 (x : Cn) (hk : x.k.length = 32) (w : World) : bldA 164 w #[(0, .agg (bA x.k)), (1, .slice x.A x.v.length x.c), (2, .bool x.d)] = .ok (.value (.agg (cnC x).toArray)) w := by
 have := bldCb3_f (fun j => x.k.getD j 0) x.A x.v.length x.c x.d w
 rw [← list32 x.k hk] at this
 exact this
theorem changes_c (A P : Option Addr) (c cP : Nat) (us : List Un) (ps : List Pl) (w : World) (hA : UA w A us) (hP : PlA w P ps) (hpl : ∀ p ∈ ps, ∃ x : Un, us[p.i]? = some x ∧ x.k = p.k) (hn : ps.length ≤ 1000) (hus : us.length ≤ 1000) :
  Calls Tryz.prog 55 #[.slice A us.length c, .slice P ps.length cP] w fun e w' => ∃ (g : Nat) (xs : List Cn), e = .returned (.slice (some ⟨g, 0, none⟩) xs.length xs.length) ∧ CA w' (some ⟨g, 0, none⟩) xs ∧ xs.map Cn.chg = ps.map (chP (us.map Un.up)) ∧ Below w.heap.size w w' := by
 have HA := Lib.hid hA
 have HP := Lib.hid hP
 have HPL := Lib.hid hpl
 have hn9 : ps.length ≤ 1000 := hn
 have hu9 : us.length ≤ 1000 := hus
 have mk := make_chgs ps.length (by omega) w
 obtain ⟨W, hW⟩ : ∃ W, W = w.alloc (.cells (mC12 ps.length) 164) := ⟨_, rfl⟩
 have HBW : Hid (Below w.heap.size w W) := by rw [hW]; exact (Below.refl _ _).alloc (Nat.le_refl _) _
 have HM0 : Hid (RowM W w.heap.size 34 ps.length (([] : List Cn).map cnC)) := by rw [hW]; exact RowM.new w _ _ 34 ps.length (by unfold mC12; rw [size_madeCells])
 rw [← hW] at mk
 clear hA hP hpl hn hus hW
 go_enter Tryz.func55, Tryz.ntmps55
 go_wp2_with fail
 clear mk
 go_loopg [14] ps.length (fun gg iv wr => ∃ (m : Nat) (xs : List Cn), iv = .int .i64 (m : Int) ∧ m ≤ ps.length ∧ ps.length - m = gg ∧ Hid (RowM wr w.heap.size 34 ps.length (xs.map cnC) ∧ (∀ x ∈ xs, CnOk w x) ∧ xs.length = m ∧ xs.map Cn.chg = (ps.take m).map (chP (us.map Un.up))) ∧ Below w.heap.size w wr)
 case atStart => exact ⟨0, [], rfl, by omega, by omega, ⟨HM0.out, fun x hx => (by cases hx), rfl, rfl⟩, HBW.out⟩
 case round =>
  obtain ⟨m, xs, rfl, hm, rfl, HR, hB⟩ := hrel
  have HB := Lib.hid hB
  clear hB
  by_cases hlt : m < ps.length
  ·have hd : decide (m < ps.length) = true := decide_eq_true hlt
   obtain ⟨p, hp⟩ : ∃ p, ps[m]? = some p := ⟨_, List.getElem?_eq_getElem hlt⟩
   obtain ⟨g, rfl, hr⟩ := HP.out m p hp
   obtain ⟨x, hx, hxk⟩ := HPL.out p (List.mem_of_getElem? hp)
   obtain ⟨hok, gu, ou, rfl, hru⟩ := HA.out p.i x hx
   have hil : p.i < us.length := (List.getElem?_eq_some_iff.1 hx).1
   have lp := range_pl (range_below hr HB.out)
   obtain ⟨X1, hX1⟩ : ∃ X1, X1 = wr.alloc (.cells (plC p).toArray 154) := ⟨_, rfl⟩
   have st := stPl13 wr p
   rw [← hX1] at st
   have hbX : Below wr.heap.size wr X1 := by rw [hX1]; exact (Below.refl _ _).alloc (Nat.le_refl _) _
   have hrX : X1.rangeAt wr.heap.size 0 (plC p) := by rw [hX1]; exact pl_made wr p _
   have ci : X1.cell? ⟨wr.heap.size, 32, none⟩ = some (.int .i64 (p.i : Int)) := range_pli hrX
   have hru2 := range_below (range_below hru HB.out) hbX
   have c0 := range_ukey hru2
   have c1 := range_uval hru2
   have c2 := range_udel hru2
   obtain ⟨Y, hY⟩ : ∃ Y, Y = X1.alloc (.cells #[.slice x.A x.k.length x.c, .slice x.B x.v.length x.e, .bool x.d] 77) := ⟨_, rfl⟩
   have hY1 : Below X1.heap.size X1 Y := by rw [hY]; exact (Below.refl _ _).alloc (Nat.le_refl _) _
   have hyb : Y.heap[X1.heap.size]? = some (.cells #[.slice x.A x.k.length x.c, .slice x.B x.v.length x.e, .bool x.d] 77 (0, 0)) := by rw [hY]; exact heap_alloc_new X1 _
   have hbWY : Below wr.heap.size wr Y := hbX.trans (hY1.mono hbX.size)
   have HBY := Lib.hid (HB.out.trans (hbWY.mono HB.out.size))
   have hwl : w.heap.size < wr.heap.size := HR.out.1.lt (by omega)
   have hXs := hbX.size
   have LY : Hid (∀ v, Keep (fun i => i = w.heap.size) Y v → ldA 40 v (.pointer (some ⟨wr.heap.size, 0, none⟩)) = .ok (.value (.agg (bA p.k))) v ∧ v.cell? ⟨X1.heap.size, 0, none⟩ = some (.slice x.A x.k.length x.c) ∧ v.cell? ⟨X1.heap.size, 1, none⟩ = some (.slice x.B x.v.length x.e) ∧ v.cell? ⟨X1.heap.size, 2, none⟩ = some (.bool x.d)) := fun v hv => by
    have h := hv.heap hyb (show ¬ X1.heap.size = w.heap.size by omega)
    have hk : v.rangeAt wr.heap.size 0 (plC p) := fun j u hj => hv.cellAt (range_below hrX hY1 j u hj) (show ¬ wr.heap.size = w.heap.size by omega)
    exact ⟨range_plk hk, by rw [cell_of_cells h]; rfl, by rw [cell_of_cells h]; rfl, by rw [cell_of_cells h]; rfl⟩
   obtain ⟨VA, hVA⟩ : ∃ VA, VA = x.vA := ⟨_, rfl⟩
   obtain ⟨VE, hVE⟩ : ∃ VE, VE = x.vE := ⟨_, rfl⟩
   obtain ⟨V0, hV0⟩ : ∃ V0, V0 = x.up.val := ⟨_, rfl⟩
   have HVO : Hid (∀ y, Calls Tryz.prog 80 #[.agg #[.slice x.A x.k.length x.c, .slice x.B x.v.length x.e, .bool x.d]] y fun e w' => e = .returned (.slice VA V0.length VE) ∧ Below y.heap.size y w') := fun y => by
    rw [hVA, hVE, hV0]
    exact valueOf_c x y
   obtain ⟨xx, hxx⟩ : ∃ xx : Cn, xx = ⟨p.k, VA, V0, VE, x.d⟩ := ⟨_, rfl⟩
   have bl : ∀ w, bldA 164 w #[(0, .agg (bA p.k)), (1, .slice VA V0.length VE), (2, .bool x.d)] = .ok (.value (.agg (cnC xx).toArray)) w := fun w => by rw [hxx]; exact bldCb3 ⟨p.k, VA, V0, VE, x.d⟩ p.len w
   have HXL : Hid ((cnC xx).length = 34) := cnC_len (by rw [hxx]; exact p.len)
   have HRY : Hid (RowM Y.drew w.heap.size 34 ps.length (xs.map cnC)) := (HR.out.1.below hbWY).below (Below.refl _ _).drew
   have HLN : Hid ((xs.map cnC).length = m) := by show _ = _; rw [List.length_map]; exact HR.out.2.2.1
   have HNX : Hid ((∀ y ∈ xs ++ [xx], CnOk w y) ∧ (xs ++ [xx]).length = m + 1 ∧ (xs ++ [xx]).map Cn.chg = (ps.take (m + 1)).map (chP (us.map Un.up))) := by
    obtain ⟨_, h2, h3, h4⟩ := HR.out
    have hv := Un.val_ok hok
    refine ⟨fun y hy => ?_, by rw [List.length_append, h3]; rfl, ?_⟩
    ·rcases List.mem_append.1 hy with hy | hy
     ·exact h2 y hy
     ·rw [List.mem_singleton.1 hy, hxx, hVA, hVE, hV0]
      exact ⟨p.len, hv.2, hv.1⟩
    ·obtain ⟨hi, rfl⟩ := List.getElem?_eq_some_iff.1 hp
     rw [List.take_succ_eq_append_getElem hi, List.map_append, List.map_append, h4, List.map_singleton, List.map_singleton]
     rw [chP_at (us := us.map Un.up) (u := x.up) (by rw [List.getElem?_map, hx]; rfl), hxx, hV0, ← hxk]
     rfl
   have HYY := Lib.hid hY
   have p0 : (0 : Int) ≤ (m : Int) := by omega
   have p1 : (m : Int) < (ps.length : Int) := by omega
   have q0 : (0 : Int) ≤ (p.i : Int) := by omega
   have q1 : (p.i : Int) < (us.length : Int) := by omega
   clear hp hr hx hxk hok hru hil hX1 hbX hrX hru2 hY hY1 hyb hbWY hwl hXs hVA hVE hV0 hxx
   go_wp2_with fail
   rw [← HYY.out]
   refine wp_region_held_drew (S := fun w' => Keep (fun i => i = w.heap.size) Y w') (by kernel_rfl) ((Keep.refl _ _).drew) (fun hHeld => ?_)
   have hb0 : Keep (fun i => i = w.heap.size) Y Y.drew := (Keep.refl _ _).drew
   refine x_t (i := 0) (oi := { dst := some 24, op := .move (.tmp 5), .. }) (v := ?_) rfl (Or.inl ⟨by rfl, ?_⟩) ?_
   rotate_left 1
   ·intro v hSv
    clear hSv
    go_simp
    try with_reducible rfl
   try simp only [Act.put, x_A, x_0, x_1]
   refine x_t (i := 1) (oi := { dst := some 25, op := .move (.tmp 6), .. }) (v := ?_) rfl (Or.inl ⟨by rfl, ?_⟩) ?_
   rotate_left 1
   ·intro v hSv
    clear hSv
    go_simp
    try with_reducible rfl
   try simp only [Act.put, x_A, x_0, x_1]
   refine x_t (i := 2) (oi := { dst := some 26, op := .fieldAddr _ (.tmp 7) 0, .. }) (v := ?_) rfl (Or.inl ⟨by rfl, ?_⟩) ?_
   rotate_left 1
   ·intro v hSv
    clear hSv
    go_simp
    try with_reducible rfl
   try simp only [Act.put, x_A, x_0, x_1]
   refine x_t (i := 3) (oi := { dst := some 27, op := .load _ (.tmp 26), .. }) (v := ?_) rfl (Or.inl ⟨by rfl, ?_⟩) ?_
   rotate_left 1
   ·intro v hSv
    have hv1 := LY.out v hSv |>.1
    clear hSv
    go_simp
    try with_reducible rfl
   try simp only [Act.put, x_A, x_0, x_1]
   refine x_t (i := 4) (oi := { dst := some 28, op := .load _ (.tmp 8), .. }) (v := ?_) rfl (Or.inl ⟨by rfl, ?_⟩) ?_
   rotate_left 1
   ·intro v hSv
    have hv1 := LY.out v hSv |>.2
    clear hSv
    go_simp
    try with_reducible rfl
   try simp only [Act.put, x_A, x_0, x_1]
   refine x_t (i := 6) (oi := { dst := some 30, op := .fieldAddr _ (.tmp 8) 2, .. }) (v := ?_) rfl (Or.inl ⟨by rfl, ?_⟩) ?_
   rotate_left 1
   ·intro v hSv
    clear hSv
    go_simp
    try with_reducible rfl
   try simp only [Act.put, x_A, x_0, x_1]
   refine x_t (i := 7) (oi := { dst := some 31, op := .load _ (.tmp 30), .. }) (v := ?_) rfl (Or.inl ⟨by rfl, ?_⟩) ?_
   rotate_left 1
   ·intro v hSv
    have hv1 := LY.out v hSv |>.2.2.2
    clear hSv
    go_simp
    try with_reducible rfl
   try simp only [Act.put, x_A, x_0, x_1]
   refine wpAnyH_ready (rs := [5]) (by kernel_rfl) (by simp) ?_
   refine AllReadyH.cons (o := { dst := some 29, op := .call _, .. }) rfl (fun K hK => ?_) AllReadyH.nil
   go_simp
   refine (HVO.out Y.drew).mono ?_
   rintro e y1 ⟨rfl, hb⟩
   have hb1 : Keep (fun i => i = w.heap.size) Y y1 := (hb0).trans (Keep.of_below hb)
   have HR1 := Lib.hid (HRY.out.below hb)
   clear hb
   go_wp2_with fail
   refine hK.out _ _ (hb1) (fun hHeld => ?_)
   clear hK K
   try simp only [Act.put, x_A, x_0, x_1]
   refine x_t (i := 8) (oi := { dst := some 32, op := .build _ #[(0, .tmp 27), (1, .tmp 29), (2, .tmp 31)], .. }) (v := ?_) rfl (Or.inl ⟨by rfl, ?_⟩) ?_
   rotate_left 1
   ·intro v hSv
    clear hSv
    go_simp
    try with_reducible rfl
   try simp only [Act.put, x_A, x_0, x_1]
   refine x_t (i := 9) (oi := { dst := some 33, op := .indexAddr _ (.tmp 24) (.tmp 25), .. }) (v := ?_) rfl (Or.inl ⟨by rfl, ?_⟩) ?_
   rotate_left 1
   ·intro v hSv
    clear hSv
    go_simp
    try with_reducible rfl
   try simp only [Act.put, x_A, x_0, x_1]
   refine wpAnyH_ready (rs := [10]) (by kernel_rfl) (by simp) ?_
   refine AllReadyH.cons (o := { dst := none, op := .store _ (.tmp 33) (.tmp 32), .. }) rfl (fun K hK => ?_) AllReadyH.nil
   have hR5 := HR1.out
   have hcl := HXL.out
   have hmid := hR5.mid (by rw [HLN.out]; exact hlt)
   rw [HLN.out, ← hcl] at hmid
   have st2 := stA_mid (t := 164) hmid (by rw [hcl]; exact infoCb1) (cnC_one xx)
   rw [hcl] at st2
   have hset := hR5.set (by rw [HLN.out]; exact hlt) hcl
   rw [HLN.out] at hset
   have HSET := Lib.hid hset
   clear hR5 hcl hmid hset
   go_simp
   refine hK.out _ _ ((hb1).trans (keep_cells13 w.heap.size (cnC xx) (m * 34) y1)) (fun hHeld => ?_)
   clear hK K
   try simp only [Act.put, x_A, x_0, x_1]
   refine wpAnyH_done (by kernel_rfl) ?_ _
   have HBF : Hid (Below w.heap.size w (y1.setCells w.heap.size (m * 34) (cnC xx))) := HBY.out.trans ((((hb1).trans (keep_cells13 w.heap.size (cnC xx) (m * 34) y1))).below HBY.out.size fun i e => by have e2 : i = w.heap.size := e; omega)
   go_wp2_with fail
   go_roundg (ps.length - (m + 1))
   case measure => omega
   case rel => exact ⟨m + 1, xs ++ [xx], by go_num, by omega, rfl, ⟨by rw [List.map_append]; exact HSET.out, HNX.out⟩, HBF.out⟩
  ·obtain rfl : m = ps.length := by omega
   have hd : decide (ps.length < ps.length) = false := decide_eq_false (by omega)
   have HF : Hid (xs.length = ps.length ∧ CA wr (some ⟨w.heap.size, 0, none⟩) xs ∧ xs.map Cn.chg = ps.map (chP (us.map Un.up))) := by
    obtain ⟨h1, h2, h3, h4⟩ := HR.out
    exact ⟨h3, h1.ca fun x hx => (h2 x hx).below HB.out, by rw [h4, List.take_length]⟩
   go_wp2_with fail
   go_ret
   exact ⟨w.heap.size, xs, by rw [HF.out.1]; rfl, HF.out.2.1, HF.out.2.2, HB.out⟩
end
section
open Go.RowKit
theorem done13g {w X y1 : World} {p b m : Nat} {n : Int} {l' : List Ent} {T T' : Tv} {q : Option Addr} (hb : Below w.heap.size w X) (hT : Tr13 w p b n T) (hne : p ≠ b) (hM : Made Mn X b n T T' m y1) (hI : IsMap l' T') (hq : T'.val = .pointer q) : Done Mn Tr13 w p b n l' T T' m (y1.setCell ⟨p, 1, none⟩ (.pointer q)) := by
 have hTX : Tr13 X p b n T := hT.below hb
 have hT1 : Tr13 y1 p b n T := hTX.keep hM.keep hne
 have hk1 : Keep (fun i => i = p) y1 (y1.setCell ⟨p, 1, none⟩ (.pointer q)) := Keep.cell y1 ⟨p, 1, none⟩ _
 have hpw := hT.lt
 have hsX := hb.size
 refine ⟨⟨?_, q, hq⟩, hI, hM.ms.ctl hk1 (fun i e => by have e2 : i = p := e; rw [e2]; exact hT1.ctl), ?_, ?_, fun w2 hk h2 => hM.aft w2 ((hk1.mono fun i e => ?_).step hk fun i hi => .inl ?_) h2⟩
 ·rw [heap_setCell_same y1 p 1 _ _ _ hT1.1, hq]
  rfl
 ·obtain ⟨c', h1, h2⟩ := hM.hs
  exact ⟨c', h1, h2.keep hk1 fun e => hne (show p = b from Eq.symm e)⟩
 ·exact ((Keep.of_below (L := fun i => i = b ∨ i = p) hb).trans (hM.keep.mono fun _ h => .inl h)).trans (hk1.mono fun _ h => .inr h)
 ·have e2 : i = p := e
  show i < X.heap.size
  omega
 ·show i < X.heap.size
  omega
theorem Done.below {w V z : World} {p b m : Nat} {n : Int} {l' : List Ent} {T T' : Tv} (h : Done Mn Tr13 w p b n l' T T' m V) (hB : Below V.heap.size V z) : Done Mn Tr13 w p b n l' T T' m z := by
 obtain ⟨c', h1, h2⟩ := h.hs
 exact ⟨h.tr.below hB, h.im, h.ms.below hB, ⟨c', h1, h2.keep (Keep.of_below (L := fun _ => False) hB) fun h => h⟩, h.keep.trans (Keep.of_below hB), fun w2 hk hm => h.aft w2 ((Keep.of_below hB).trans hk) hm⟩
theorem tapply_batch {y : World} {b : Nat} {n : Int} {c : Nat} {l : List Ent} {T : Tv} {us : List Un} {ps : List Pl} {xs : List Cn} {g : Nat} (hH : Hs y b n c) (hc : c ≤ 20000000) (hv : Vars y) (hM : Mn y n T) (hI : IsMap l T) (ha : Asc l) (hl : l.length ≤ 500) (hCA : CA y (some ⟨g, 0, none⟩) xs)
  (hcg : xs.map Cn.chg = ps.map (chP (us.map Un.up))) (hP : Pls (us.map Un.up) ps) (hs : ps.Pairwise fun a b => ¬ cmpK b.k a.k < 0) (h0 : (checkU (us.map Un.up)).2 = 0) (hn : us.length ≤ 20) :
  Calls Tryz.prog 54 #[ptr b, T.val, .slice (some ⟨g, 0, none⟩) xs.length xs.length] y fun x w' => ∃ T', x = .returned (.tuple #[T'.val, .int .i64 0]) ∧ IsMap (appU l (us.map Un.up)) T' ∧ Made Mn y b n T T' (c + 90000) w' := by
 obtain ⟨hr, hne⟩ := checkU_right h0
 have hxl : xs.length = us.length := by
  have h1 := congrArg List.length hcg
  rw [List.length_map, List.length_map, hP.len, List.length_map] at h1
  exact h1
 have hasc := hP.asc hne hs
 have hk : xs.map Cn.k = (ps.map (chP (us.map Un.up))).map Chg.k := by
  rw [← hcg, List.map_map]
  rfl
 have hch : chkK (xs.map Cn.k) = 0 := by rw [hk]; exact asc_chk _ hasc
 have hap : appC l (xs.map Cn.chg) = appU l (us.map Un.up) := by
  rw [hcg]
  exact hP.app ha hI.sep.len hne fun u hu => (rightK_zero (hr u hu)).1
 have hvl : ∀ x ∈ xs, x.v.length ≤ 70000 := fun x hx => by
  have h1 : x.chg ∈ ps.map (chP (us.map Un.up)) := by rw [← hcg]; exact List.mem_map.2 ⟨x, hx, rfl⟩
  obtain ⟨u, hu, he⟩ := List.mem_map.1 (hP.chg.mem_iff.1 h1)
  have h2 := (rightK_zero (hr u hu)).2
  have h3 : x.v = u.val := by have := congrArg Chg.v he; exact this.symm
  rw [h3]
  omega
 refine (ba_c.apply y b n c l T (some ⟨g, 0, none⟩) xs.length xs hH (by omega) hv hM hI (by omega) hCA (Nat.le_refl _) (by omega) hvl).mono ?_
 rintro e w' ⟨h, _⟩
 have := h hch
 rwa [hap] at this
theorem tapply_no (w : World) (p b : Nat) (n : Int) (c : Nat) (A : Option Addr) (cA : Nat) (us : List Un) (hH : Hs w b n c) (hA : UA w A us) (hn : us.length ≤ 20) (h0 : (checkU (us.map Un.up)).2 ≠ 0) :
  Calls Tryz.prog 31 #[ptr p, .slice A us.length cA] w fun e w' => ∃ x, e = .returned x ∧ Wrong w' (opB applyB) ((checkU (us.map Un.up)).1 : Int) (checkU (us.map Un.up)).2 x ∧ Idle w b n (c + 90000) w' := by
 have HSO : Hid (Calls Tryz.prog 53 #[.slice A us.length cA] w fun e w' => ∃ b, e = .returned (.tuple #[.slice none 0 0, .iface 142 (.pointer (some ⟨b, 0, none⟩))]) ∧ Wrong w' (opB applyB) ((checkU (us.map Un.up)).1 : Int) (checkU (us.map Un.up)).2 (.iface 142 (.pointer (some ⟨b, 0, none⟩))) ∧ Below w.heap.size w w') := (sorted_c A cA us w hA (by omega)).mono fun e w' h => h.2 h0
 obtain ⟨I, hI⟩ : ∃ I, I = (checkU (us.map Un.up)).1 := ⟨_, rfl⟩
 obtain ⟨E, hE⟩ : ∃ E, E = (checkU (us.map Un.up)).2 := ⟨_, rfl⟩
 rw [← hI, ← hE] at HSO ⊢
 have HH := Lib.hid hH
 clear hH hA hn h0 hI hE
 unfold ptr
 go_enter Tryz.func31, Tryz.ntmps31
 go_wp2_with fail
 refine HSO.out.mono ?_
 rintro _ w1 ⟨b9, rfl, hWG, hB⟩
 have HWX := Lib.hid hWG
 have HBX := Lib.hid hB
 clear hWG hB HSO
 go_wp2_with fail
 go_ret
 exact ⟨_, rfl, HWX.out, ⟨c, by omega, HH.out.keep (Keep.of_below (L := fun _ => False) HBX.out) fun h => h⟩, Keep.of_below HBX.out⟩
theorem tapply_ok (w : World) (p b : Nat) (n : Int) (c : Nat) (l : List Ent) (T : Tv) (A : Option Addr) (cA : Nat) (us : List Un) (hT : Tr13 w p b n T) (hH : Hs w b n c) (hc : c ≤ 20000000) (hv : Vars w) (hM : Mn w n T) (hI : IsMap l T) (hl : l.length ≤ 500) (ha : Asc l) (hA : UA w A us) (hn : us.length ≤ 20) (h0 : (checkU (us.map Un.up)).2 = 0) :
  Calls Tryz.prog 31 #[ptr p, .slice A us.length cA] w fun e w' => ∃ T', e = .returned .nilIface ∧ Done Mn Tr13 w p b n (appU l (us.map Un.up)) T T' (c + 90000) w' := by
 have HSO : Hid (Calls Tryz.prog 53 #[.slice A us.length cA] w fun e w' => ∃ (P : Option Addr) (c : Nat) (ps : List Pl), e = .returned (.tuple #[.slice P ps.length c, .nilIface]) ∧ PlA w' P ps ∧ Pls (us.map Un.up) ps ∧ ps.Pairwise (fun a b => ¬ cmpK b.k a.k < 0) ∧ Below w.heap.size w w') := (sorted_c A cA us w hA (by omega)).mono fun e w' h => h.1 h0
 obtain ⟨l2, hl2⟩ : ∃ l2, l2 = appU l (us.map Un.up) := ⟨_, rfl⟩
 rw [← hl2]
 have HL2 := Lib.hid hl2
 have HT := Lib.hid hT
 have HH := Lib.hid hH
 have HV := Lib.hid hv
 have HM := Lib.hid hM
 have HI := Lib.hid hI
 have HLN := Lib.hid hl
 have HC := Lib.hid hc
 have HAS := Lib.hid ha
 have HA := Lib.hid hA
 have HUN := Lib.hid hn
 have H0 := Lib.hid h0
 have HNB := Lib.hid (hT.ne hH)
 obtain ⟨z, hz⟩ := hT.2
 have HZ := Lib.hid hz
 clear hA hT hH hv hM hI hl hc hz ha hn h0 hl2
 unfold ptr
 go_enter Tryz.func31, Tryz.ntmps31
 go_wp2_with fail
 refine HSO.out.mono ?_
 rintro _ X ⟨P, cP, ps, rfl, hPA, hPls, hSrt, hB⟩
 have hSrt2 : ps.Pairwise (fun a b => ¬ cmpK b.k a.k < 0) := hSrt.imp fun h => by omega
 have HBX := Lib.hid hB
 have HTX := Lib.hid (HT.out.below HBX.out)
 have LT0 : Hid (X.cell? ⟨p, 1, none⟩ = some (.pointer z)) := by have := HTX.out.cell1; rwa [HZ.out] at this
 have LC0 : Hid (X.cell? ⟨p, 0, none⟩ = some (.pointer (some ⟨b, 0, none⟩))) := HTX.out.cell0
 have LT : Hid (∀ v, Keep (fun i => i = b) X v → v.cell? ⟨p, 0, none⟩ = some (.pointer (some ⟨b, 0, none⟩)) ∧ v.cell? ⟨p, 1, none⟩ = some (.pointer z)) := fun v hv => ⟨hv.cellAt LC0.out HNB.out, hv.cellAt LT0.out HNB.out⟩
 have HCH : Hid (Calls Tryz.prog 55 #[.slice A us.length cA, .slice P ps.length cP] X.drew fun e w' => ∃ (g : Nat) (xs : List Cn), e = .returned (.slice (some ⟨g, 0, none⟩) xs.length xs.length) ∧ CA w' (some ⟨g, 0, none⟩) xs ∧ xs.map Cn.chg = ps.map (chP (us.map Un.up)) ∧ Below X.drew.heap.size X.drew w') := by
  have hpl := hPls.len
  rw [List.length_map] at hpl
  refine changes_c A P cA cP us ps X.drew (HA.out.below HBX.out.drew) (hPA.below (w' := X.drew) (Below.refl _ _).drew) (fun q hq => ?_) (by have := HUN.out; omega) (by have := HUN.out; omega)
  obtain ⟨u, hu, hk⟩ := hPls.at_ q hq
  rw [List.getElem?_map] at hu
  obtain ⟨x, hx, rfl⟩ := Option.map_eq_some_iff.1 hu
  exact ⟨x, hx, hk⟩
 have HBF : Hid (∀ (g : Nat) (xs : List Cn) (y : World), Below X.drew.heap.size X.drew y → CA y (some ⟨g, 0, none⟩) xs → xs.map Cn.chg = ps.map (chP (us.map Un.up)) → Calls Tryz.prog 54 #[.pointer (some ⟨b, 0, none⟩), .pointer z, .slice (some ⟨g, 0, none⟩) xs.length xs.length] y fun x w' => ∃ T', x = .returned (.tuple #[T'.val, .int .i64 0]) ∧ IsMap l2 T' ∧ Made Mn y b n T T' (c + 90000) w') := fun g xs y hy hCA hcg => by
  have hb : Below w.heap.size w y := HBX.out.drew.trans (hy.mono HBX.out.size)
  have := tapply_batch (HH.out.keep (Keep.of_below (L := fun _ => False) hb) fun h => h) HC.out (HV.out.below hb) (HM.out.below hb) HI.out HAS.out HLN.out hCA hcg hPls hSrt2 H0.out HUN.out
  rw [HZ.out, ← HL2.out] at this
  exact this
 clear hPA hPls hSrt hSrt2 hB HSO
 go_wp2_with fail
 refine wp_region_held_drew (S := fun w' => Keep (fun i => i = b) X w') (by kernel_rfl) ((Keep.refl _ _).drew) (fun hHeld => ?_)
 have hb0 : Keep (fun i => i = b) X X.drew := (Keep.refl _ _).drew
 refine x_t (i := 0) (oi := { dst := some 21, op := .move (.tmp 0), .. }) (v := ?_) rfl (Or.inl ⟨by rfl, ?_⟩) ?_
 rotate_left 1
 ·intro v hSv
  clear hSv
  go_simp
  try with_reducible rfl
 try simp only [Act.put, x_A, x_0, x_1]
 refine x_t (i := 1) (oi := { dst := some 22, op := .nilCheck (.tmp 21), .. }) (v := ?_) rfl (Or.inl ⟨by rfl, ?_⟩) ?_
 rotate_left 1
 ·intro v hSv
  clear hSv
  go_simp
  try with_reducible rfl
 try simp only [Act.put, x_A, x_0, x_1]
 refine x_t (i := 2) (oi := { dst := some 23, op := .fieldAddr _ (.tmp 22) 0, .. }) (v := ?_) rfl (Or.inl ⟨by rfl, ?_⟩) ?_
 rotate_left 1
 ·intro v hSv
  clear hSv
  go_simp
  try with_reducible rfl
 try simp only [Act.put, x_A, x_0, x_1]
 refine x_t (i := 3) (oi := { dst := some 24, op := .load _ (.tmp 23), .. }) (v := ?_) rfl (Or.inl ⟨by rfl, ?_⟩) ?_
 rotate_left 1
 ·intro v hSv
  have hv1 := LT.out v hSv |>.1
  clear hSv
  go_simp
  try with_reducible rfl
 try simp only [Act.put, x_A, x_0, x_1]
 refine x_t (i := 4) (oi := { dst := some 25, op := .move (.tmp 0), .. }) (v := ?_) rfl (Or.inl ⟨by rfl, ?_⟩) ?_
 rotate_left 1
 ·intro v hSv
  clear hSv
  go_simp
  try with_reducible rfl
 try simp only [Act.put, x_A, x_0, x_1]
 refine x_t (i := 5) (oi := { dst := some 26, op := .nilCheck (.tmp 25), .. }) (v := ?_) rfl (Or.inl ⟨by rfl, ?_⟩) ?_
 rotate_left 1
 ·intro v hSv
  clear hSv
  go_simp
  try with_reducible rfl
 try simp only [Act.put, x_A, x_0, x_1]
 refine x_t (i := 6) (oi := { dst := some 27, op := .fieldAddr _ (.tmp 26) 1, .. }) (v := ?_) rfl (Or.inl ⟨by rfl, ?_⟩) ?_
 rotate_left 1
 ·intro v hSv
  clear hSv
  go_simp
  try with_reducible rfl
 try simp only [Act.put, x_A, x_0, x_1]
 refine x_t (i := 7) (oi := { dst := some 28, op := .load _ (.tmp 27), .. }) (v := ?_) rfl (Or.inl ⟨by rfl, ?_⟩) ?_
 rotate_left 1
 ·intro v hSv
  have hv1 := LT.out v hSv |>.2
  clear hSv
  go_simp
  try with_reducible rfl
 try simp only [Act.put, x_A, x_0, x_1]
 refine x_t (i := 8) (oi := { dst := some 29, op := .move (.tmp 1), .. }) (v := ?_) rfl (Or.inl ⟨by rfl, ?_⟩) ?_
 rotate_left 1
 ·intro v hSv
  clear hSv
  go_simp
  try with_reducible rfl
 try simp only [Act.put, x_A, x_0, x_1]
 refine x_t (i := 9) (oi := { dst := some 30, op := .move (.tmp 5), .. }) (v := ?_) rfl (Or.inl ⟨by rfl, ?_⟩) ?_
 rotate_left 1
 ·intro v hSv
  clear hSv
  go_simp
  try with_reducible rfl
 try simp only [Act.put, x_A, x_0, x_1]
 refine wpAnyH_ready (rs := [10]) (by kernel_rfl) (by simp) ?_
 refine AllReadyH.cons (o := { dst := some 31, op := .call _, .. }) rfl (fun K hK => ?_) AllReadyH.nil
 go_simp
 refine (HCH.out).mono ?_
 rintro e y1 ⟨g9, xs9, rfl, hCA9, hCG9, hb⟩
 have hb1 : Keep (fun i => i = b) X y1 := (hb0).trans (Keep.of_below hb)
 have HB9 := Lib.hid hb
 have HBA := Lib.hid (HBF.out g9 xs9 y1 hb hCA9 hCG9)
 clear hCA9 hCG9
 clear hb
 go_wp2_with fail
 refine hK.out _ _ (hb1) (fun hHeld => ?_)
 clear hK K
 try simp only [Act.put, x_A, x_0, x_1]
 refine wpAnyH_ready (rs := [11]) (by kernel_rfl) (by simp) ?_
 refine AllReadyH.cons (o := { dst := some 32, op := .call _, .. }) rfl (fun K hK => ?_) AllReadyH.nil
 go_simp
 refine (HBA.out).mono ?_
 rintro e y2 ⟨T9, rfl, hI9, hb⟩
 have hb2 : Keep (fun i => i = b) X y2 := (hb1).trans hb.keep
 obtain ⟨q9, hq9⟩ := Mn.ptr hb.ms
 rw [hq9]
 have HQ9 := Lib.hid hq9
 have HI9 := Lib.hid hI9
 have HM9 := Lib.hid hb
 clear hq9 hI9
 clear hb
 go_wp2_with fail
 refine hK.out _ _ (hb2) (fun hHeld => ?_)
 clear hK K
 try simp only [Act.put, x_A, x_0, x_1]
 refine x_t (i := 12) (oi := { dst := some 20, op := .move (.tmp 32), .. }) (v := ?_) rfl (Or.inl ⟨by rfl, ?_⟩) ?_
 rotate_left 1
 ·intro v hSv
  clear hSv
  go_simp
  try with_reducible rfl
 try simp only [Act.put, x_A, x_0, x_1]
 refine x_t (i := 13) (oi := { dst := some 33, op := .extract (.tmp 20) 0, .. }) (v := ?_) rfl (Or.inl ⟨by rfl, ?_⟩) ?_
 rotate_left 1
 ·intro v hSv
  clear hSv
  go_simp
  try with_reducible rfl
 try simp only [Act.put, x_A, x_0, x_1]
 refine x_t (i := 14) (oi := { dst := some 34, op := .extract (.tmp 20) 1, .. }) (v := ?_) rfl (Or.inl ⟨by rfl, ?_⟩) ?_
 rotate_left 1
 ·intro v hSv
  clear hSv
  go_simp
  try with_reducible rfl
 try simp only [Act.put, x_A, x_0, x_1]
 refine x_t (i := 15) (oi := { dst := some 7, op := .assign (.tmp 33), .. }) (v := ?_) rfl (Or.inl ⟨by rfl, ?_⟩) ?_
 rotate_left 1
 ·intro v hSv
  clear hSv
  go_simp
  try with_reducible rfl
 try simp only [Act.put, x_A, x_0, x_1]
 refine x_t (i := 16) (oi := { dst := some 8, op := .assign (.tmp 34), .. }) (v := ?_) rfl (Or.inl ⟨by rfl, ?_⟩) ?_
 rotate_left 1
 ·intro v hSv
  clear hSv
  go_simp
  try with_reducible rfl
 try simp only [Act.put, x_A, x_0, x_1]
 refine wpAnyH_done (by kernel_rfl) ?_ _
 have hp2 : y2.heap[p]? = some (.cells #[ptr b, T.val] 73 (0, 0)) := ((hb2)).heap HTX.out.1 HNB.out
 have lT1 : y2.cell? ⟨p, 1, none⟩ = some T.val := by rw [cell_of_cells hp2]; rfl
 have fr1 := frozen_of_row y2 p 1 _ _ hp2
 clear hp2
 have HBY1 : Hid (Below w.heap.size w y1) := HBX.out.drew.trans (HB9.out.mono HBX.out.size)
 have HD := Lib.hid (done13g HBY1.out HT.out HNB.out HM9.out HI9.out HQ9.out)
 go_wp2_with fail
 refine (wrap_ok (opB applyB) 0 _).mono ?_
 rintro _ z1 ⟨rfl, hB⟩
 have HDZ := Lib.hid (HD.out.below hB)
 clear hB
 go_wp2_with fail
 go_ret
 exact ⟨T9, rfl, HDZ.out⟩
theorem tapply_nil (A : Option Addr) (m cA : Nat) (w : World) : Calls Tryz.prog 31 #[.pointer none, .slice A m cA] w fun e w' => ∃ x, e = .returned x ∧ Wrong w' (opB applyB) 0 1 x ∧ Below w.heap.size w w' := by
 go_enter Tryz.func31, Tryz.ntmps31
 go_wp2_with fail
 refine (wrap_no (opB applyB) 0 1 (by decide) w).mono ?_
 rintro _ w1 ⟨b9, rfl, hWG, hB⟩
 have HWX := Lib.hid hWG
 have HBX := Lib.hid hB
 clear hWG hB
 go_wp2_with fail
 go_ret
 exact ⟨_, rfl, HWX.out, HBX.out⟩
end
section
open Go.RowKit
theorem tput_nil (A B : Option Addr) (cA cB : Nat) (k v : List UInt8) (w : World) : Calls Tryz.prog 15 #[.pointer none, .slice A k.length cA, .slice B v.length cB] w fun e w' => ∃ x, e = .returned x ∧ Wrong w' (opB putB) 0 1 x ∧ Below w.heap.size w w' := by
 have HBE := Lib.hid (begin_nil (opB putB) A B k.length v.length cA cB w)
 have HQ : Hid (z26.length = 32) := by show _ = _; simp [z26]
 go_enter Tryz.func15, Tryz.ntmps15
 go_wp2_with (go_at_call 42; refine HBE.out.mono ?_; rintro _ w1 ⟨b9, rfl, hWG, hB⟩; obtain ⟨X, hX⟩ : ∃ X, X = w1.alloc (.cells (bA z26) 40) := ⟨_, rfl⟩; have hst := stKey13 w1 HQ.out; rw [← hX] at hst; have hb1 : Below w1.heap.size w1 X := (by rw [hX]; exact (Below.refl _ _).alloc (Nat.le_refl _) _); have hg1 : X.heap[w1.heap.size]? = some (.cells (bA z26) 40 (0, 0)) := (by rw [hX]; exact heap_alloc_new w1 _); have HWX := Lib.hid (hWG.below hb1); have HBX := Lib.hid (hB.trans (hb1.mono hB.size)); clear hX hb1 hg1 hWG hB)
 go_ret
 exact ⟨_, rfl, HWX.out, HBX.out⟩
theorem tget_nil (A : Option Addr) (cA : Nat) (k : List UInt8) (w : World) : Calls Tryz.prog 22 #[.pointer none, .slice A k.length cA] w fun e w' => ∃ B cB x, e = .returned (.tuple #[.slice B 0 cB, .bool false, x]) ∧ Wrong w' (opB getB) 0 1 x ∧ Below w.heap.size w w' := by
 have HBE := Lib.hid (begin_nil (opB getB) A none k.length 0 cA 0 w)
 have HQ : Hid (z26.length = 32) := by show _ = _; simp [z26]
 go_enter Tryz.func22, Tryz.ntmps22
 go_wp2_with (go_at_call 42; refine HBE.out.mono ?_; rintro _ w1 ⟨b9, rfl, hWG, hB⟩; obtain ⟨X, hX⟩ : ∃ X, X = w1.alloc (.cells (bA z26) 40) := ⟨_, rfl⟩; have hst := stKey13 w1 HQ.out; rw [← hX] at hst; have hb1 : Below w1.heap.size w1 X := (by rw [hX]; exact (Below.refl _ _).alloc (Nat.le_refl _) _); have hg1 : X.heap[w1.heap.size]? = some (.cells (bA z26) 40 (0, 0)) := (by rw [hX]; exact heap_alloc_new w1 _); have HWX := Lib.hid (hWG.below hb1); have HBX := Lib.hid (hB.trans (hb1.mono hB.size)); clear hX hb1 hg1 hWG hB)
 go_ret3
 exact ⟨none, 0, _, rfl, HWX.out, HBX.out⟩
theorem tdel_nil (A : Option Addr) (cA : Nat) (k : List UInt8) (w : World) : Calls Tryz.prog 29 #[.pointer none, .slice A k.length cA] w fun e w' => ∃ x, e = .returned (.tuple #[.bool false, x]) ∧ Wrong w' (opB deleteB) 0 1 x ∧ Below w.heap.size w w' := by
 have HBE := Lib.hid (begin_nil (opB deleteB) A none k.length 0 cA 0 w)
 have HQ : Hid (z26.length = 32) := by show _ = _; simp [z26]
 go_enter Tryz.func29, Tryz.ntmps29
 go_wp2_with (go_at_call 42; refine HBE.out.mono ?_; rintro _ w1 ⟨b9, rfl, hWG, hB⟩; obtain ⟨X, hX⟩ : ∃ X, X = w1.alloc (.cells (bA z26) 40) := ⟨_, rfl⟩; have hst := stKey13 w1 HQ.out; rw [← hX] at hst; have hb1 : Below w1.heap.size w1 X := (by rw [hX]; exact (Below.refl _ _).alloc (Nat.le_refl _) _); have hg1 : X.heap[w1.heap.size]? = some (.cells (bA z26) 40 (0, 0)) := (by rw [hX]; exact heap_alloc_new w1 _); have HWX := Lib.hid (hWG.below hb1); have HBX := Lib.hid (hB.trans (hb1.mono hB.size)); clear hX hb1 hg1 hWG hB)
 go_ret2
 exact ⟨_, rfl, HWX.out, HBX.out⟩
theorem sum_nil13 (A : Option Addr) (m cA : Nat) (w : World) : Calls Tryz.prog 46 #[.pointer none, .slice A m cA] w fun e w' => e = .returned (.agg (bA z26)) ∧ Below w.heap.size w w' := by
 have b0 := fun w => (show bldA 46 w #[] = .ok (.value (.agg (bA z26))) w by kernel_rfl)
 obtain ⟨X, hX⟩ : ∃ X, X = w.alloc (.cells (bA z26) 46) := ⟨_, rfl⟩
 have hb0 : Below w.heap.size w X := by rw [hX]; exact (Below.refl _ _).alloc (Nat.le_refl _) _
 have hz0 : X.heap[w.heap.size]? = some (.cells (bA z26) 46 (0, 0)) := by rw [hX]; exact heap_alloc_new w _
 have HX := Lib.hid hX
 have HB0 := Lib.hid hb0
 have HZ0 := Lib.hid hz0
 have st := stA_row (t := 46) (v := bA z26) hz0 (by rw [bA_size]; exact info26) rfl (bA_one _)
 rw [hX] at st
 have HM := Lib.hid (setRow_heap X w.heap.size _ (bA z26) 46 _ hz0)
 rw [hX] at HM
 clear hX hb0 hz0
 go_enter Tryz.func46, Tryz.ntmps46
 go_wp2_with fail
 refine bodyPost_ret (v := .agg (bA z26)) ?_ rfl ⟨rfl, by rw [← HX.out]; exact below_row13 HB0.out (Nat.le_refl _) _⟩
 exact results_cell_row rfl _ _ w.heap.size 46 _ (0, 0) _ rfl HM.out Tryz.underlying46 rfl (by rw [bA_size]; exact info26)
theorem digest_nil13 (w : World) : Calls Tryz.prog 26 #[.pointer none, .pointer none] w fun e w' => e = .returned (.agg (bA z26)) ∧ Below w.heap.size w w' := by
 obtain ⟨X, hX⟩ : ∃ X, X = w.alloc (.cells (bA z26) 46) := ⟨_, rfl⟩
 have hb0 : Below w.heap.size w X := by rw [hX]; exact (Below.refl _ _).alloc (Nat.le_refl _) _
 have hz0 : X.heap[w.heap.size]? = some (.cells (bA z26) 46 (0, 0)) := by rw [hX]; exact heap_alloc_new w _
 have HX := Lib.hid hX
 have HB0 := Lib.hid hb0
 have HZ0 := Lib.hid hz0
 have HC := Lib.hid (pempty_c X)
 clear hX hb0 hz0
 go_enter Tryz.func26, Tryz.ntmps26
 go_wp2_with fail
 rw [← HX.out]
 refine HC.out.mono ?_
 rintro _ w1 ⟨A1, c1, rfl, _, _, _, hB1⟩
 have HB1 := Lib.hid (HB0.out.trans (hB1.mono HB0.out.size))
 have HZ1 := Lib.hid ((hB1.block _ (lt_of_heap HZ0.out)).trans HZ0.out)
 have HS := Lib.hid (sum_nil13 A1 emptyL.length c1 w1)
 rw [show emptyL.length = 1 from rfl] at HS
 clear hB1 HC
 go_wp2_with fail
 refine HS.out.mono ?_
 rintro _ w2 ⟨rfl, hB2⟩
 have hz2 := (hB2.block _ (lt_of_heap HZ1.out)).trans HZ1.out
 have st := stA_row (t := 46) (v := bA z26) hz2 (by rw [bA_size]; exact info26) rfl (bA_one _)
 have HM := Lib.hid (setRow_heap w2 w.heap.size _ (bA z26) 46 _ hz2)
 have HB2 := Lib.hid (HB1.out.trans (hB2.mono HB1.out.size))
 clear hB2 hz2 HS
 go_wp2_with fail
 refine bodyPost_ret (v := .agg (bA z26)) ?_ rfl ⟨rfl, below_row13 HB2.out (Nat.le_refl _) _⟩
 exact results_cell_row rfl _ _ w.heap.size 46 _ (0, 0) _ rfl HM.out Tryz.underlying46 rfl (by rw [bA_size]; exact info26)
theorem troot_nil (w : World) : Calls Tryz.prog 16 #[.pointer none] w fun e w' => e = .returned (.agg (bA z26)) ∧ Below w.heap.size w w' := by
 obtain ⟨X, hX⟩ : ∃ X, X = w.alloc (.cells (bA z26) 46) := ⟨_, rfl⟩
 have hb0 : Below w.heap.size w X := by rw [hX]; exact (Below.refl _ _).alloc (Nat.le_refl _) _
 have hz0 : X.heap[w.heap.size]? = some (.cells (bA z26) 46 (0, 0)) := by rw [hX]; exact heap_alloc_new w _
 have HX := Lib.hid hX
 have HB0 := Lib.hid hb0
 have HZ0 := Lib.hid hz0
 have H1 := Lib.hid (thasher_nil X)
 have H2 := Lib.hid (tnode_nil X)
 have H3 := Lib.hid (digest_nil13 X)
 clear hX hb0 hz0
 go_enter Tryz.func16, Tryz.ntmps16
 go_wp2_with fail
 rw [← HX.out]
 refine H1.out.mono ?_
 rintro _ _ ⟨rfl, rfl⟩
 go_wp2_with fail
 refine H2.out.mono ?_
 rintro _ _ ⟨rfl, rfl⟩
 go_wp2_with fail
 refine H3.out.mono ?_
 rintro _ w2 ⟨rfl, hB2⟩
 have hz2 := (hB2.block _ (lt_of_heap HZ0.out)).trans HZ0.out
 have st := stA_row (t := 46) (v := bA z26) hz2 (by rw [bA_size]; exact info26) rfl (bA_one _)
 have HM := Lib.hid (setRow_heap w2 w.heap.size _ (bA z26) 46 _ hz2)
 have HB2 := Lib.hid (HB0.out.trans (hB2.mono HB0.out.size))
 clear hB2 hz2 H1 H2 H3
 go_wp2_with fail
 refine bodyPost_ret (v := .agg (bA z26)) ?_ rfl ⟨rfl, below_row13 HB2.out (Nat.le_refl _) _⟩
 exact results_cell_row rfl _ _ w.heap.size 46 _ (0, 0) _ rfl HM.out Tryz.underlying46 rfl (by rw [bA_size]; exact info26)
theorem bel_of {w w' : World} (h : w = w') : Below w.heap.size w w' := by subst h; exact Below.refl _ _
theorem tr_c : TrV Mn Tr13 where
 lt := Tr13.lt
 keep := Tr13.keep
 ne := Tr13.ne
 ctl := Tr13.ctl
 ms := fun h k hL => h.ctl k hL
 new_yes := fun w n h0 h1 => tnew_c n w h0 h1
 new_no := fun w n h => tnew_no n w h
 put := fun w p b n c l T A B cA cB k v hT hH hc hv hM hI _ hl hA _ hB hcB _ _ => by
  by_cases hr : rightK k v = 0
  ·exact (tput_ok w p b n c l T A B cA cB k v hT hH hc hv hM hI hl hA hB hcB hr).mono fun _ _ h => ⟨fun _ => h, fun h2 => absurd hr h2⟩
  ·exact (tput_no w p b n c A B cA cB k v hH hA hr).mono fun _ _ h => ⟨fun h2 => absurd h2 hr, fun _ => h⟩
 get := fun w p b n l T A cA k hT hM hI hA _ _ => by
  by_cases hk : k.length = 32
  ·exact (tget_ok w p b n l T A cA k hT hM hI hA hk).mono fun _ _ h => ⟨fun _ => h, fun h2 => absurd hk h2⟩
  ·exact (tget_no w p A cA k hA hk).mono fun _ _ h => ⟨fun h2 => absurd h2 hk, fun _ => h⟩
 delete := fun w p b n c l T A cA k hT hH hc hv hM hI _ hl hA _ _ => by
  by_cases hk : k.length = 32
  ·exact (tdel_ok w p b n c l T A cA k hT hH hc hv hM hI hl hA hk).mono fun _ _ h => ⟨fun _ => h, fun h2 => absurd hk h2⟩
  ·exact (tdel_no w p b n c A cA k hH hA hk).mono fun _ _ h => ⟨fun h2 => absurd h2 hk, fun _ => h⟩
 apply := fun w p b n c l T A cA us hT hH hc hv hM hI ha hl hA _ hn _ => by
  by_cases h0 : (checkU (us.map Un.up)).2 = 0
  ·exact (tapply_ok w p b n c l T A cA us hT hH hc hv hM hI hl ha hA hn h0).mono fun _ _ h => ⟨fun _ => h, fun h2 => absurd h0 h2⟩
  ·exact (tapply_no w p b n c A cA us hH hA hn h0).mono fun _ _ h => ⟨fun h2 => absurd h2 h0, fun _ => h⟩
 root := fun w p b n c T hT hH hc hv hM => troot_c w p b n c T hT hH hc hv hM
 len := fun w p b n l T hT hM hI hl => tlen_c w p b n l T hT hM hI hl
 entries := fun w p b n l T hT hM hI ha hl => tentries_c w p b n l T hT hM hI ha hl
 clone := fun w p b n T hT => tclone_c w p b n T hT
 node := fun w p b n T hT => (tnode_c w p b n T hT).mono fun _ _ h => ⟨h.1, bel_of h.2⟩
 hasher := fun w p b n T hT => (thasher_c w p b n T hT).mono fun _ _ h => ⟨h.1, bel_of h.2⟩
theorem tn_c : TrN where
 put := fun w A B cA cB k v => tput_nil A B cA cB k v w
 get := fun w A cA k => tget_nil A cA k w
 delete := fun w A cA k => tdel_nil A cA k w
 apply := fun w A m cA => tapply_nil A m cA w
 root := troot_nil
 len := tlen_nil
 entries := tentries_nil
 clone := tclone_nil
 node := fun w => (tnode_nil w).mono fun _ _ h => ⟨h.1, bel_of h.2⟩
 hasher := fun w => (thasher_nil w).mono fun _ _ h => ⟨h.1, bel_of h.2⟩
end
end Go.Proofs.YtkejfdgmdjfdoaaGreatDoor
