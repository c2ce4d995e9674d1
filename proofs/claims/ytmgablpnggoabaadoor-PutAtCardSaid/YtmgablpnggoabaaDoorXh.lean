/- The walk of PutAt over contracts. -/
import Derived.Test.YtmgablpnggoabaaDoorMV
import Derived.Test.YtmgablpnggoabaaDoorMT
import Derived.Test.YtmgablpnggoabaaDoorMR
namespace Go.Proofs.YtmgablpnggoabaaDoor
open Go.RowKit

def edC (x : En) (d : Int) : List Value := enC x ++ [Value.int .i64 d]
theorem ed_range {W : World} {x : En} {d : Int} : (W.alloc (.cells (edC x d).toArray 49)).rangeAt W.heap.size 0 (enC x) := by
  intro j v hv
  rw [Nat.zero_add, cell_of_cells (heap_alloc_new W _), List.getElem?_toArray]
  unfold edC
  rw [List.getElem?_append_left (List.getElem?_eq_some_iff.1 hv).1]
  exact hv
theorem ed_depth {W : World} {x : En} {d : Int} (hx : x.k.length = 32) : (W.alloc (.cells (edC x d).toArray 49)).cell? ⟨W.heap.size, 33, none⟩ = some (.int .i64 d) := by
  rw [cell_of_cells (heap_alloc_new W _), List.getElem?_toArray]
  unfold edC
  rw [List.getElem?_append_right (by rw [enC_len hx]; omega), enC_len hx]
  rfl
set_option maxHeartbeats 16000000 in
set_option maxRecDepth 100000 in
theorem putat_in {M : World → Int → Tv → Prop} (nd : NdV M) (fv : FnV M) (pv : PtV M) (n : Int) (A : Option Addr) (c : Nat) (es : List En) (x : En) (q : Nat) (W : World) (hA : EA W A es) (hl : es.length ≤ 12) (hvl : ∀ e ∈ es, e.v.length ≤ 1000) (hf : fewK (es.map En.ent) = true) (hvx : Vars W) (h0 : 0 ≤ n) (h1 : n ≤ 256) (hx : EnOk W x) (hxl : x.v.length ≤ 200) (hq : q ≤ 256) :
    Calls Tryd.prog 6 #[.int .i64 n, .slice A es.length c, .agg (edC x (q : Int)).toArray] W (Aye W) := by
  obtain ⟨X, hX⟩ : ∃ X, X = W.alloc (.cells (edC x (q : Int)).toArray 49) := ⟨_, rfl⟩
  have hb0 : Below W.heap.size W X := by rw [hX]; exact (Below.refl _ _).alloc (Nat.le_refl _) _
  have hr0 : X.rangeAt W.heap.size 0 (enC x) := by rw [hX]; exact ed_range
  have hd0 : X.cell? ⟨W.heap.size, 33, none⟩ = some (.int .i64 (q : Int)) := by rw [hX]; exact ed_depth hx.key
  have HR0 := Lib.hid hr0
  have HD0 := Lib.hid hd0
  have HXO := Lib.hid (hx.below hb0)
  have HXL := Lib.hid hxl
  clear hr0 hd0 hx hxl
  have HX := Lib.hid hX
  have HB0 := Lib.hid hb0
  have HQL := Lib.hid hq
  have HT := Lib.hid (tree_in nd n A c es X (hA.below hb0) hl hvl hf (hvx.below hb0) h0 h1)
  have HVE : Hid (∀ e ∈ ofE es, e.v.length ≤ 1000) := fun e he => hvl e (ofE_mem he)
  have HLE : Hid ((ofE es).length ≤ 12) := Nat.le_trans (ofE_len es) hl
  clear hA hvl hf hvx hX hb0 hq
  go_enter Tryd.func6, Tryd.ntmps6
  go_wp2_with fail
  rw [← HX.out]
  clear HX
  refine HT.out.mono ?_
  rintro _ w2 ⟨A2, c2, T, rfl, hc2, hI, hF⟩
  have HI := Lib.hid hI
  have HF2 := Lib.hid hF
  have HC2 := Lib.hid hc2
  obtain ⟨O, hO⟩ : ∃ O, O = ofE es := ⟨_, rfl⟩
  rw [← hO] at HI HF2 HVE HLE HC2 ⊢
  obtain ⟨pT, hpT⟩ := val_ptr nd hF.ms
  have HPT := Lib.hid hpT
  rw [hpT]
  have HH := Lib.hid (hash_in n w2 h0 h1)
  clear hc2 hI hF HT hO hpT
  go_wp2_with fail
  refine HH.out.mono ?_
  rintro _ w3 ⟨b, rfl, hbn, hH, hB⟩
  have HQ3 : Hid (Tf M X n A2 O T b 0 w3) := ⟨HF2.out.below nd hB, ⟨0, Nat.le_refl _, hH⟩, Nat.le_trans HF2.out.bel.size hbn⟩
  clear hH hbn hB HH HF2
  unfold ptr
  have LD : Hid (∀ v, Below w3.heap.size w3 v → v.cell? ⟨W.heap.size, 33, none⟩ = some (.int .i64 (q : Int))) := fun v hv => by
    have hs := lt_of_cell HD0.out
    have hb := HQ3.out.fs.bel
    have hz := hb.size
    rw [hv.cell (by show W.heap.size < _; exact Nat.lt_of_lt_of_le hs hz), hb.cell hs]
    exact HD0.out
  have LE : Hid (∀ v, Below w3.heap.size w3 v → ldA 27 v (.pointer (some ⟨W.heap.size, 0, none⟩)) = .ok (.value (.agg (enC x).toArray)) v) := fun v hv => range_ent (range_below (range_below HR0.out HQ3.out.fs.bel) hv) HXO.out.key
  go_wp2_with fail
  refine region_heldT 6 (fun v => Below w3.heap.size w3 v) (by kernel_rfl) ?_
  have hHeld : Below w3.heap.size w3 w3.drew := (Below.refl _ _).drew
  refine HeldT.take (i := 0) (oi := { dst := some 27, op := .fieldAddr _ (.tmp 5) 1, type := _, pos := _, after := _, guard := _ }) (v := ?_) rfl (by kernel_rfl) (by kernel_rfl) (by kernel_rfl) (by kernel_rfl) (fun _ _ _ h => h) (Or.inl ⟨by rfl, ?_⟩) (by assumption) ?_
  rotate_left 1
  · intro v hSv
    clear hSv
    go_simp
    try with_reducible rfl
  try simp only [Act.put, List.setIfInBounds_toArray, List.set_cons_zero, List.set_cons_succ]
  refine HeldT.take (i := 1) (oi := { dst := some 28, op := .load _ (.tmp 27), type := _, pos := _, after := _, guard := _ }) (v := ?_) rfl (by kernel_rfl) (by kernel_rfl) (by kernel_rfl) (by kernel_rfl) (fun _ _ _ h => h) (Or.inl ⟨by rfl, ?_⟩) (by assumption) ?_
  rotate_left 1
  · intro v hSv
    have hv1 := LD.out v hSv
    clear hSv
    go_simp
    try with_reducible rfl
  try simp only [Act.put, List.setIfInBounds_toArray, List.set_cons_zero, List.set_cons_succ]
  refine HeldT.take (i := 2) (oi := { dst := some 29, op := .fieldAddr _ (.tmp 5) 0, type := _, pos := _, after := _, guard := _ }) (v := ?_) rfl (by kernel_rfl) (by kernel_rfl) (by kernel_rfl) (by kernel_rfl) (fun _ _ _ h => h) (Or.inl ⟨by rfl, ?_⟩) (by assumption) ?_
  rotate_left 1
  · intro v hSv
    clear hSv
    go_simp
    try with_reducible rfl
  try simp only [Act.put, List.setIfInBounds_toArray, List.set_cons_zero, List.set_cons_succ]
  refine HeldT.take (i := 3) (oi := { dst := some 30, op := .load _ (.tmp 29), type := _, pos := _, after := _, guard := _ }) (v := ?_) rfl (by kernel_rfl) (by kernel_rfl) (by kernel_rfl) (by kernel_rfl) (fun _ _ _ h => h) (Or.inl ⟨by rfl, ?_⟩) (by assumption) ?_
  rotate_left 1
  · intro v hSv
    have hv1 := LE.out v hSv
    clear hSv
    go_simp
    try with_reducible rfl
  try simp only [Act.put, List.setIfInBounds_toArray, List.set_cons_zero, List.set_cons_succ]
  refine HeldT.one (i := 4) (o := { dst := some 12, op := .alloc _, type := _, pos := _, after := _, guard := _ }) (by kernel_rfl) rfl rfl (fun K hK => ?_)
  go_wp2_with fail
  refine hK.out _ _ (fun _ => ((Below.refl _ _).alloc (Nat.le_refl _) _).drew) (fun hS => ?_)
  have hHeld := hS (by decide)
  clear hS hK K
  try simp only [Act.put, List.setIfInBounds_toArray, List.set_cons_zero, List.set_cons_succ]
  refine HeldT.take (i := 5) (oi := { dst := some 11, op := .assign (.tmp 28), type := _, pos := _, after := _, guard := _ }) (v := ?_) rfl (by kernel_rfl) (by kernel_rfl) (by kernel_rfl) (by kernel_rfl) (fun _ _ _ h => h) (Or.inl ⟨by rfl, ?_⟩) (by assumption) ?_
  rotate_left 1
  · intro v hSv
    clear hSv
    go_simp
    try with_reducible rfl
  try simp only [Act.put, List.setIfInBounds_toArray, List.set_cons_zero, List.set_cons_succ]
  have st : stA 27 (w3.alloc (.cells (enC ⟨z26, none, [], 0⟩).toArray 27)).drew (.pointer (some ⟨w3.heap.size, 0, none⟩)) (.agg (enC x).toArray) = .ok .skip (w3.alloc (.cells (enC x).toArray 27)).drew :=
    stE_new (w := w3.drew) (e := x) (z := ⟨z26, none, [], 0⟩) HXO.out.key rfl
  obtain ⟨Y, hY⟩ : ∃ Y, Y = (w3.alloc (.cells (enC x).toArray 27)).drew := ⟨_, rfl⟩
  have hBY : Below w3.heap.size w3 Y := by rw [hY]; exact ((Below.refl _ _).alloc (Nat.le_refl _) _).drew
  have hrY : Y.rangeAt w3.heap.size 0 (enC x) := by rw [hY]; exact ent_made w3 x _
  have hsY : w3.heap.size < Y.heap.size := by rw [hY]; show w3.heap.size < (w3.alloc _).heap.size; simp
  have HY := Lib.hid hY
  have HBY := Lib.hid hBY
  have HRY := Lib.hid hrY
  have HSY := Lib.hid hsY
  have HQ4 := Lib.hid (HQ3.out.below nd hBY)
  clear hY hBY hrY hsY hHeld
  refine HeldT.one (i := 6) (o := { dst := none, op := .store _ (.tmp 12) (.tmp 30), type := _, pos := _, after := _, guard := _ }) (by kernel_rfl) rfl rfl (fun K hK => ?_)
  go_wp2_with fail
  refine hK.out _ _ (fun h => absurd rfl h) (fun _ => ?_)
  clear hK K
  try simp only [Act.put, List.setIfInBounds_toArray, List.set_cons_zero, List.set_cons_succ]
  refine HeldT.done (by kernel_rfl) ?_ _
  rw [← HY.out]
  have lv := range_val HRY.out HXO.out.key
  rw [Nat.zero_add] at lv
  have e2 : decide (200 < (x.v.length : Int)) = false := decide_eq_false (by have := HXL.out; omega)
  have e1 : decide (200 < x.v.length) = false := decide_eq_false (by have := HXL.out; omega)
  have q1 : decide ((q : Int) < 0) = false := decide_eq_false (by omega)
  have q2 : decide (256 < (q : Int)) = false := decide_eq_false (by have := HQL.out; omega)
  have q3 : decide (256 < q) = false := decide_eq_false (by have := HQL.out; omega)
  have HQ3B := Lib.hid HQ3.out.hs
  clear st LD LE HY HQ3
  go_wp2_with fail
  have hqL := HQL.out
  have oL := HLE.out
  clear q1 q2 q3 e1 e2 lv
  go_loopg [13, 50] O.length (fun gg out i wr => ∃ m : Nat, i = .int .i64 (m : Int) ∧ m ≤ O.length ∧ O.length - m = gg ∧ OwnE wr Y.heap.size out (underE (O.take m) x.k q) ∧ Below Y.heap.size Y wr)
  case atStart => exact ⟨0, rfl, by omega, by omega, OwnE.nil _ _, Below.refl _ _⟩
  case round =>
    obtain ⟨m, rfl, hm, rfl, hO, hB⟩ := hrel
    have HO := Lib.hid hO
    have HB := Lib.hid hB
    obtain ⟨A3, c3, rfl, hc3⟩ := hO.len
    have hln : (underE (O.take m) x.k q).length ≤ O.length := filter_le O _ m
    obtain ⟨N, hN⟩ : ∃ N, N = (underE (O.take m) x.k q).length := ⟨_, rfl⟩
    rw [← hN] at HO hln ⊢
    have HN := Lib.hid hN
    have HLN := Lib.hid hln
    clear hO hB hc3 hN hln
    by_cases hlt : m < O.length
    · have hd : decide (m < O.length) = true := decide_eq_true hlt
      obtain ⟨e, he⟩ : ∃ e, O[m]? = some e := ⟨_, List.getElem?_eq_getElem hlt⟩
      obtain ⟨hok, g, o, rfl, hr⟩ := (HQ4.out.fs.ea.below HB.out) m e he
      have HKL := Lib.hid hok.key
      have HE := Lib.hid he
      have p0 : (0 : Int) ≤ (m : Int) := by omega
      have p1 : (m : Int) < (O.length : Int) := by omega
      have le := range_ent hr hok.key
      have st := stE_new (w := wr) (e := e) (z := ⟨z26, none, [], 0⟩) hok.key rfl
      obtain ⟨V, hV⟩ : ∃ V, V = wr.alloc (.cells (enC e).toArray 27) := ⟨_, rfl⟩
      have hbV : Below wr.heap.size wr V := by rw [hV]; exact (Below.refl _ _).alloc (Nat.le_refl _) _
      have hr0 : V.rangeAt wr.heap.size 0 (enC e) := by rw [hV]; exact ent_made wr e _
      have HBV := Lib.hid (HB.out.trans (hbV.mono HB.out.size))
      have HRV := Lib.hid hr0
      have HOV := Lib.hid (HO.out.below hbV)
      have l1 := range_key hr0 hok.key
      have l2 := range_key (range_below HRY.out HBV.out) HXO.out.key
      have HV := Lib.hid hV
      have HC := Lib.hid (comK_c e.k x.k hok.key HXO.out.key V)
      obtain ⟨h, hh⟩ : ∃ h, h = comK e.k x.k := ⟨_, rfl⟩
      rw [← hh] at HC
      have HHC := Lib.hid hh
      rw [hV] at l1 l2
      clear he hok hr hh hV hbV hr0
      by_cases hqb : q ≤ h
      · have hp : decide (q ≤ comK e.k x.k) = true := decide_eq_true (by rw [← HHC.out]; exact hqb)
        have e1 : decide (q ≤ h) = true := decide_eq_true hqb
        have e2 : decide ((q : Int) ≤ (h : Int)) = true := decide_eq_true (by omega)
        have HF : Hid (underE (O.take (m + 1)) x.k q = underE (O.take m) x.k q ++ [e]) := filter_yes HE.out hp
        have bs := bsE_one e HKL.out
        clear hqb hp
        go_wp2_with fail
        rw [← HV.out]
        refine HC.out.mono ?_
        rintro _ w5 ⟨rfl, hb5⟩
        have HB5 := Lib.hid (HBV.out.trans (hb5.mono HBV.out.size))
        have HO5 := Lib.hid (HOV.out.below hb5)
        have le5 := range_ent (range_below HRV.out hb5) HKL.out
        clear l1 l2 st le hb5 HC HV
        go_wp2_with (at_builtin; refine wpList_pushE rfl _ _ rfl Y.heap.size _ (underE (O.take m) x.k q) rfl (OwnE.below HO5.out ((Below.refl _ _).alloc (Nat.le_refl _) _)) w5.heap.size e HKL.out rfl (ent_made w5 e _) (by rw [← HN.out]; have := HLN.out; have := HLE.out; omega) (by have := HB5.out.size; simp; omega) ?_; intro v4 w4 hO4 hB4; have HO4 := Lib.hid hO4; have HB4 := Lib.hid ((HB5.out.alloc HB5.out.size _).trans hB4); clear hO4 hB4)
        go_roundg (O.length - (m + 1))
        case measure => omega
        case rel => exact ⟨m + 1, by go_num, by omega, rfl, by rw [HF.out]; exact HO4.out, HB4.out⟩
      · have hp : decide (q ≤ comK e.k x.k) = false := decide_eq_false (by rw [← HHC.out]; exact hqb)
        have e1 : decide (q ≤ h) = false := decide_eq_false hqb
        have e2 : decide ((q : Int) ≤ (h : Int)) = false := decide_eq_false (by omega)
        have HF : Hid (underE (O.take (m + 1)) x.k q = underE (O.take m) x.k q) := filter_no HE.out hp
        clear hqb hp
        go_wp2_with fail
        rw [← HV.out]
        refine HC.out.mono ?_
        rintro _ w5 ⟨rfl, hb5⟩
        have HB5 := Lib.hid (HBV.out.trans (hb5.mono HBV.out.size))
        have HO5 := Lib.hid (HOV.out.below hb5)
        clear l1 l2 st le hb5 HC HV
        go_wp2_with fail
        go_roundg (O.length - (m + 1))
        case measure => omega
        case rel => exact ⟨m + 1, by go_num, by omega, rfl, by rw [HF.out, HN.out] at *; exact HO5.out, HB5.out⟩
    · obtain rfl : m = O.length := by omega
      have hd : decide (O.length < O.length) = false := decide_eq_false (by omega)
      have HOf : Hid (OwnE wr Y.heap.size (.slice A3 N c3) (underE O x.k q)) := by
        have := HO.out
        rw [List.take_length] at this
        exact this
      have HNf : Hid (N = (underE O x.k q).length) := by
        have := HN.out
        rw [List.take_length] at this
        exact this
      clear HN HO
      have HWB : Hid (w3.heap.size < Y.heap.size ∧ b < w3.heap.size) := ⟨HSY.out, by obtain ⟨_, _, h⟩ := HQ3B.out; exact lt_of_heap h⟩
      obtain ⟨V, hV⟩ : ∃ V, V = underE O x.k q := ⟨_, rfl⟩
      have HVV : Hid (V.length ≤ 12 ∧ ∀ e ∈ V, e.v.length ≤ 1000) := by
        rw [hV]
        exact ⟨Nat.le_trans (underE_len _ _ _) HLE.out, fun e he => HVE.out e (underE_mem he)⟩
      have HVU : Hid (V.map En.ent = underK (O.map En.ent) x.ent.k q) := by show _ = _; rw [hV]; exact underE_ent O x.k q
      have hmV : ∀ e ∈ V, e ∈ O := fun e he => underE_mem (by rw [← hV]; exact he)
      rw [← hV] at HOf HNf
      have HQw := Lib.hid (HQ4.out.below nd HB.out)
      obtain ⟨Av, cv, hAv, hcv, hEv⟩ := HOf.out.ea (fun e he => HQw.out.fs.ea.mem e (hmV e he))
      rw [HNf.out] at hAv ⊢
      injection hAv with hA1 _ hA3
      subst hA1 hA3
      have HEV := Lib.hid hEv
      have HRW := Lib.hid (range_below HRY.out HB.out)
      have LK : Hid (∀ v, Keep (fun i => i = b) wr v → ldA 24 v (.pointer (some ⟨w3.heap.size, 0, none⟩)) = .ok (.value (.agg (bA x.k))) v) := fun v hv => range_key (fun j z hz => hv.cellAt (HRW.out j z hz) (by have := HWB.out.2; show w3.heap.size ≠ b; omega)) HXO.out.key
      have LE : Hid (∀ v, Keep (fun i => i = b) wr v → ldA 27 v (.pointer (some ⟨w3.heap.size, 0, none⟩)) = .ok (.value (.agg (enC x).toArray)) v) := fun v hv => range_ent (fun j z hz => hv.cellAt (HRW.out j z hz) (by have := HWB.out.2; show w3.heap.size ≠ b; omega)) HXO.out.key
      have HXW : Hid (EnOk wr x) := (HXO.out.below HQw.out.fs.bel)
      obtain ⟨mw, hmw, hhw⟩ := HQw.out.hs
      have HHW := Lib.hid hhw
      have HMW : Hid (mw ≤ 0) := hmw
      clear hV hmV hEv hcv hmw hhw HOf HNf HQ4 HB hqL oL
      go_wp2_with fail
      refine region_heldT 9 (fun v => Keep (fun i => i = b) wr v) (by kernel_rfl) ?_
      have hHeld : Keep (fun i => i = b) wr wr.drew := (Keep.refl _ _).drew
      refine HeldT.take (i := 0) (oi := { dst := some 66, op := .move (.tmp 10), type := _, pos := _, after := _, guard := _ }) (v := ?_) rfl (by kernel_rfl) (by kernel_rfl) (by kernel_rfl) (by kernel_rfl) (fun _ _ _ h => h) (Or.inl ⟨by rfl, ?_⟩) (by assumption) ?_
      rotate_left 1
      · intro v hSv
        clear hSv
        go_simp
        try with_reducible rfl
      try simp only [Act.put, List.setIfInBounds_toArray, List.set_cons_zero, List.set_cons_succ]
      refine HeldT.take (i := 1) (oi := { dst := some 67, op := .move (.tmp 8), type := _, pos := _, after := _, guard := _ }) (v := ?_) rfl (by kernel_rfl) (by kernel_rfl) (by kernel_rfl) (by kernel_rfl) (fun _ _ _ h => h) (Or.inl ⟨by rfl, ?_⟩) (by assumption) ?_
      rotate_left 1
      · intro v hSv
        clear hSv
        go_simp
        try with_reducible rfl
      try simp only [Act.put, List.setIfInBounds_toArray, List.set_cons_zero, List.set_cons_succ]
      refine HeldT.take (i := 2) (oi := { dst := some 68, op := .fieldAddr _ (.tmp 12) 0, type := _, pos := _, after := _, guard := _ }) (v := ?_) rfl (by kernel_rfl) (by kernel_rfl) (by kernel_rfl) (by kernel_rfl) (fun _ _ _ h => h) (Or.inl ⟨by rfl, ?_⟩) (by assumption) ?_
      rotate_left 1
      · intro v hSv
        clear hSv
        go_simp
        try with_reducible rfl
      try simp only [Act.put, List.setIfInBounds_toArray, List.set_cons_zero, List.set_cons_succ]
      refine HeldT.take (i := 3) (oi := { dst := some 69, op := .load _ (.tmp 68), type := _, pos := _, after := _, guard := _ }) (v := ?_) rfl (by kernel_rfl) (by kernel_rfl) (by kernel_rfl) (by kernel_rfl) (fun _ _ _ h => h) (Or.inl ⟨by rfl, ?_⟩) (by assumption) ?_
      rotate_left 1
      · intro v hSv
        have hv1 := LK.out v hSv
        clear hSv
        go_simp
        try with_reducible rfl
      try simp only [Act.put, List.setIfInBounds_toArray, List.set_cons_zero, List.set_cons_succ]
      refine HeldT.take (i := 4) (oi := { dst := some 70, op := .move (.tmp 11), type := _, pos := _, after := _, guard := _ }) (v := ?_) rfl (by kernel_rfl) (by kernel_rfl) (by kernel_rfl) (by kernel_rfl) (fun _ _ _ h => h) (Or.inl ⟨by rfl, ?_⟩) (by assumption) ?_
      rotate_left 1
      · intro v hSv
        clear hSv
        go_simp
        try with_reducible rfl
      try simp only [Act.put, List.setIfInBounds_toArray, List.set_cons_zero, List.set_cons_succ]
      refine HeldT.take (i := 6) (oi := { dst := some 72, op := .load _ (.tmp 12), type := _, pos := _, after := _, guard := _ }) (v := ?_) rfl (by kernel_rfl) (by kernel_rfl) (by kernel_rfl) (by kernel_rfl) (fun _ _ _ h => h) (Or.inl ⟨by rfl, ?_⟩) (by assumption) ?_
      rotate_left 1
      · intro v hSv
        have hv1 := LE.out v hSv
        clear hSv
        go_simp
        try with_reducible rfl
      try simp only [Act.put, List.setIfInBounds_toArray, List.set_cons_zero, List.set_cons_succ]
      refine HeldT.take (i := 7) (oi := { dst := some 73, op := .move (.tmp 11), type := _, pos := _, after := _, guard := _ }) (v := ?_) rfl (by kernel_rfl) (by kernel_rfl) (by kernel_rfl) (by kernel_rfl) (fun _ _ _ h => h) (Or.inl ⟨by rfl, ?_⟩) (by assumption) ?_
      rotate_left 1
      · intro v hSv
        clear hSv
        go_simp
        try with_reducible rfl
      try simp only [Act.put, List.setIfInBounds_toArray, List.set_cons_zero, List.set_cons_succ]
      refine HeldT.one (i := 5) (o := { dst := some 71, op := .call _, type := _, pos := _, after := _, guard := _ }) (by kernel_rfl) rfl rfl (fun K hK => ?_)
      have HC := Lib.hid (fv.under wr.drew n _ T x.k (q : Int) (nd.below HQw.out.fs.ms ((Below.refl _ _).drew)) HI.out HXO.out.key)
      rw [show limB (q : Int) = q by have := HQL.out; unfold limB; omega, HPT.out] at HC
      obtain ⟨pU, hpU⟩ := val_ptr nd (ms_under nd x.k q HQw.out.fs.ms)
      rw [hpU] at HC
      have HPU := Lib.hid hpU
      clear hpU
      go_wp2_with fail
      refine HC.out.mono ?_
      rintro _ y1 ⟨rfl, hB⟩
      have hk1 : Keep (fun i => i = b) wr y1 := (Keep.refl _ wr).drew.trans (Keep.of_below hB)
      have HBY1 : Hid (Below wr.heap.size wr y1) := (Below.refl _ wr).drew.trans hB
      clear hB HC
      go_wp2_with fail
      refine hK.out _ _ (fun _ => hk1) (fun hS => ?_)
      have hHeld := hS (by decide)
      clear hS hK K
      try simp only [Act.put, List.setIfInBounds_toArray, List.set_cons_zero, List.set_cons_succ]
      clear hk1
      refine HeldT.one (i := 8) (o := { dst := some 74, op := .call _, type := _, pos := _, after := _, guard := _ }) (by kernel_rfl) rfl rfl (fun K hK => ?_)
      have HUS := Lib.hid (under_sub HI.out (k := x.ent.k) HQL.out)
      have HC := Lib.hid (pv.atd y1 b n mw q (underK (O.map En.ent) x.ent.k q) (T.under x.k q) x (HHW.out.keep (Keep.of_below (L := fun _ => False) HBY1.out) fun h => h) (by have := HMW.out; omega) (HQw.out.fs.vars.below HBY1.out) (nd.below (ms_under nd x.k q HQw.out.fs.ms) HBY1.out) HUS.out HQL.out (under_apt (e := x.ent) HXO.out.key HQL.out) (by rw [← HVU.out, List.length_map]; have := HVV.out.1; omega) (HXW.out.below HBY1.out) (by have := HXL.out; omega))
      rw [HPU.out] at HC
      unfold ptr at HC
      go_wp2_with fail
      refine HC.out.mono ?_
      rintro _ y2 ⟨T', rfl, hI', hm⟩
      obtain ⟨pN, hpN⟩ := val_ptr nd hm.ms
      rw [hpN]
      have HPN := Lib.hid hpN
      have HI' := Lib.hid hI'
      have hk2 : Keep (fun i => i = b) wr y2 := (Keep.of_below HBY1.out).trans hm.keep
      have HM5 := Lib.hid hm.ms
      obtain ⟨m5, hm5, hh5⟩ := hm.hs
      have HM5L : Hid (m5 ≤ 1000) := by show _ ≤ _; have := HMW.out; omega
      have HK2 := Lib.hid hk2
      have HQ5 : Hid (Tf M X n A2 O T b 1000 y2) := HQw.out.made nd hk2 ⟨m5, HM5L.out, hh5⟩
      clear hI' hm hpN hm5 hh5 HC
      go_wp2_with fail
      refine hK.out _ _ (fun _ => hk2) (fun hS => ?_)
      have hHeld := hS (by decide)
      clear hS hK K
      try simp only [Act.put, List.setIfInBounds_toArray, List.set_cons_zero, List.set_cons_succ]
      clear hk2
      refine HeldT.one (i := 9) (o := { dst := some 16, op := .assign _, type := _, pos := _, after := _, guard := _ }) (by kernel_rfl) rfl rfl (fun K hK => ?_)
      go_wp2_with fail
      refine hK.out _ _ (fun h => absurd rfl h) (fun _ => ?_)
      clear hK K
      try simp only [Act.put, List.setIfInBounds_toArray, List.set_cons_zero, List.set_cons_succ]
      refine HeldT.done (by kernel_rfl) ?_ _
      clear hHeld
      have HE5 := Lib.hid (HHW.out.ea HEV.out HK2.out)
      have HX5 := Lib.hid (HHW.out.ok HXW.out HK2.out)
      have HR5 := Lib.hid (HHW.out.range HRW.out HXO.out.key HK2.out)
      have lk := range_key HR5.out HXO.out.key
      have lv := range_val HR5.out HXO.out.key
      rw [Nat.zero_add] at lv
      have HP := Lib.hid (put7_c A3 c3 V x y2 HE5.out (by have := HVV.out.1; omega) HX5.out)
      clear HQw HHW HK2 HEV HRW LK LE HXW HBY1
      go_wp2_with fail
      refine HP.out.mono ?_
      rintro _ w8 ⟨v8, rfl, hO8, hB⟩
      have HQ8 := Lib.hid (HQ5.out.below nd hB)
      have HM8 := Lib.hid (nd.below HM5.out hB)
      obtain ⟨A8, c8, rfl, hc8, hE8⟩ := hO8.ea (fun e he => by
        rcases putE_mem he with rfl | h
        · exact HX5.out.below hB
        · exact (HE5.out.mem e h).below hB)
      have HE8 := Lib.hid hE8
      obtain ⟨Wn, hWn⟩ : ∃ Wn, Wn = putE V x := ⟨_, rfl⟩
      have HWL : Hid (Wn.length ≤ 13 ∧ ∀ e ∈ Wn, e.v.length ≤ 1000) := by
        rw [hWn]
        refine ⟨by have := putE_len V x; have := HVV.out.1; omega, fun e he => ?_⟩
        rcases putE_mem he with rfl | h
        · have := HXL.out; omega
        · exact HVV.out.2 e h
      have HWE : Hid (Wn.map En.ent = putK (underK (O.map En.ent) x.ent.k q) x.ent) := by show _ = _; rw [hWn, putE_ent, HVU.out]
      have HWB2 : Hid (lenT T'.tr = Wn.length ∧ digT n T'.tr = rootK (257 - q) n (Wn.map En.ent) (q : Int)) := by
        have h := grow_both n (257 - q) _ (q : Int) HI'.out.sep (.inr ⟨by omega, by have := HQL.out; omega, by have := HQL.out; omega⟩)
        rw [← HI'.out.tr, ← HWE.out, List.length_map] at h
        exact h
      rw [← hWn] at HE8 ⊢
      clear hO8 hc8 hE8 hB HP HQ5 HM5 lk lv hWn HE5 HX5 HR5
      have HAL := Lib.hid (alive9_c nd fv pv w8 HQ8.out.fs.vars)
      go_wp2_with fail
      refine HAL.out.mono ?_
      rintro _ w9 ⟨rfl, hB⟩
      have HQ9 := Lib.hid (HQ8.out.below nd hB)
      have HM9 := Lib.hid (nd.below HM8.out hB)
      have HE9 := Lib.hid (HE8.out.below hB)
      have HC := Lib.hid (len_tf nd HQ9.out HM9.out HPN.out (by rw [HWB2.out.1]; have := HWL.out.1; omega))
      rw [HWB2.out.1] at HC
      clear hB HAL HQ8 HM8 HE8
      go_wp2_with fail
      refine HC.out.mono ?_
      rintro _ wa ⟨rfl, hq, hB⟩
      have HQA := Lib.hid hq
      have HMA := Lib.hid (nd.below HM9.out hB)
      have HEA := Lib.hid (HE9.out.below hB)
      have ql : ((Wn.length : Int) == (Wn.length : Int)) = true := beq_self_eq_true _
      obtain ⟨g, hg⟩ : ∃ g, g = digT n T'.tr := ⟨_, rfl⟩
      have hgl : g.length = 32 := by rw [hg]; exact digT_len _ _
      have HC := Lib.hid (dig_tf nd HQA.out (by decide) HMA.out HPN.out)
      have HGR : Hid (rootK (257 - q) n (Wn.map En.ent) (q : Int) = g) := by show _ = _; rw [hg]; exact HWB2.out.2.symm
      rw [← hg] at HC
      clear hB hq HQ9 HM9 HE9 hg
      go_wp2_with fail
      refine HC.out.mono ?_
      rintro _ wb ⟨rfl, hq, hK⟩
      have HQB := Lib.hid hq
      have HEB : Hid (EA wb A8 Wn) := by
        obtain ⟨_, _, hh⟩ := HQA.out.hs
        exact hh.ea HEA.out hK
      have HC := Lib.hid (root7_c n (257 - q) A8 c8 Wn (q : Int) wb HEB.out (by have := HWL.out.1; omega) HWL.out.2 (.inr ⟨by omega, by have := HQL.out; omega, by have := HQL.out; omega⟩))
      rw [HGR.out] at HC
      have qg : ∀ x y w, eqA .eql 44 x y w (.agg (bA g)) (.agg (bA g)) = .ok (.value (.bool true)) w := fun x y w => by rw [eqDig g g hgl hgl, decide_eq_true rfl]
      clear hK hq HQA HMA HEA
      go_wp2_with fail
      refine HC.out.mono ?_
      rintro _ wc ⟨rfl, hB⟩
      have HQC := Lib.hid (HQB.out.below nd hB)
      clear hB HC HQB HEB
      go_wp2_with fail
      go_ret
      exact ⟨rfl, HB0.out.trans (HQC.out.fs.bel.mono HB0.out.size)⟩
set_option maxHeartbeats 16000000 in
set_option maxRecDepth 100000 in
theorem putat_long {M : World → Int → Tv → Prop} (nd : NdV M) (fv : FnV M) (pv : PtV M) (n : Int) (A : Option Addr) (c : Nat) (es : List En) (x : En) (d : Int) (W : World) (hA : EA W A es) (hl : es.length ≤ 12) (hvl : ∀ e ∈ es, e.v.length ≤ 1000) (hf : fewK (es.map En.ent) = true) (hvx : Vars W) (h0 : 0 ≤ n) (h1 : n ≤ 256) (hx : EnOk W x) (hq : 200 < x.v.length) :
    Calls Tryd.prog 6 #[.int .i64 n, .slice A es.length c, .agg (edC x d).toArray] W (Aye W) := by
  obtain ⟨X, hX⟩ : ∃ X, X = W.alloc (.cells (edC x d).toArray 49) := ⟨_, rfl⟩
  have hb0 : Below W.heap.size W X := by rw [hX]; exact (Below.refl _ _).alloc (Nat.le_refl _) _
  have hr0 : X.rangeAt W.heap.size 0 (enC x) := by rw [hX]; exact ed_range
  have hd0 : X.cell? ⟨W.heap.size, 33, none⟩ = some (.int .i64 d) := by rw [hX]; exact ed_depth hx.key
  have HR0 := Lib.hid hr0
  have HD0 := Lib.hid hd0
  have HXO := Lib.hid (hx.below hb0)
  clear hr0 hd0 hx
  have HX := Lib.hid hX
  have HB0 := Lib.hid hb0
  have HDD := Lib.hid hq
  have HT := Lib.hid (tree_in nd n A c es X (hA.below hb0) hl hvl hf (hvx.below hb0) h0 h1)
  have HVE : Hid (∀ e ∈ ofE es, e.v.length ≤ 1000) := fun e he => hvl e (ofE_mem he)
  have HLE : Hid ((ofE es).length ≤ 12) := Nat.le_trans (ofE_len es) hl
  clear hA hvl hf hvx hX hb0 hq
  go_enter Tryd.func6, Tryd.ntmps6
  go_wp2_with fail
  rw [← HX.out]
  clear HX
  refine HT.out.mono ?_
  rintro _ w2 ⟨A2, c2, T, rfl, hc2, hI, hF⟩
  have HI := Lib.hid hI
  have HF2 := Lib.hid hF
  have HC2 := Lib.hid hc2
  obtain ⟨O, hO⟩ : ∃ O, O = ofE es := ⟨_, rfl⟩
  rw [← hO] at HI HF2 HVE HLE HC2 ⊢
  obtain ⟨pT, hpT⟩ := val_ptr nd hF.ms
  have HPT := Lib.hid hpT
  rw [hpT]
  have HH := Lib.hid (hash_in n w2 h0 h1)
  clear hc2 hI hF HT hO hpT
  go_wp2_with fail
  refine HH.out.mono ?_
  rintro _ w3 ⟨b, rfl, hbn, hH, hB⟩
  have HQ3 : Hid (Tf M X n A2 O T b 0 w3) := ⟨HF2.out.below nd hB, ⟨0, Nat.le_refl _, hH⟩, Nat.le_trans HF2.out.bel.size hbn⟩
  clear hH hbn hB HH HF2
  unfold ptr
  have LD : Hid (∀ v, Below w3.heap.size w3 v → v.cell? ⟨W.heap.size, 33, none⟩ = some (.int .i64 d)) := fun v hv => by
    have hs := lt_of_cell HD0.out
    have hb := HQ3.out.fs.bel
    have hz := hb.size
    rw [hv.cell (by show W.heap.size < _; exact Nat.lt_of_lt_of_le hs hz), hb.cell hs]
    exact HD0.out
  have LE : Hid (∀ v, Below w3.heap.size w3 v → ldA 27 v (.pointer (some ⟨W.heap.size, 0, none⟩)) = .ok (.value (.agg (enC x).toArray)) v) := fun v hv => range_ent (range_below (range_below HR0.out HQ3.out.fs.bel) hv) HXO.out.key
  go_wp2_with fail
  refine region_heldT 6 (fun v => Below w3.heap.size w3 v) (by kernel_rfl) ?_
  have hHeld : Below w3.heap.size w3 w3.drew := (Below.refl _ _).drew
  refine HeldT.take (i := 0) (oi := { dst := some 27, op := .fieldAddr _ (.tmp 5) 1, type := _, pos := _, after := _, guard := _ }) (v := ?_) rfl (by kernel_rfl) (by kernel_rfl) (by kernel_rfl) (by kernel_rfl) (fun _ _ _ h => h) (Or.inl ⟨by rfl, ?_⟩) (by assumption) ?_
  rotate_left 1
  · intro v hSv
    clear hSv
    go_simp
    try with_reducible rfl
  try simp only [Act.put, List.setIfInBounds_toArray, List.set_cons_zero, List.set_cons_succ]
  refine HeldT.take (i := 1) (oi := { dst := some 28, op := .load _ (.tmp 27), type := _, pos := _, after := _, guard := _ }) (v := ?_) rfl (by kernel_rfl) (by kernel_rfl) (by kernel_rfl) (by kernel_rfl) (fun _ _ _ h => h) (Or.inl ⟨by rfl, ?_⟩) (by assumption) ?_
  rotate_left 1
  · intro v hSv
    have hv1 := LD.out v hSv
    clear hSv
    go_simp
    try with_reducible rfl
  try simp only [Act.put, List.setIfInBounds_toArray, List.set_cons_zero, List.set_cons_succ]
  refine HeldT.take (i := 2) (oi := { dst := some 29, op := .fieldAddr _ (.tmp 5) 0, type := _, pos := _, after := _, guard := _ }) (v := ?_) rfl (by kernel_rfl) (by kernel_rfl) (by kernel_rfl) (by kernel_rfl) (fun _ _ _ h => h) (Or.inl ⟨by rfl, ?_⟩) (by assumption) ?_
  rotate_left 1
  · intro v hSv
    clear hSv
    go_simp
    try with_reducible rfl
  try simp only [Act.put, List.setIfInBounds_toArray, List.set_cons_zero, List.set_cons_succ]
  refine HeldT.take (i := 3) (oi := { dst := some 30, op := .load _ (.tmp 29), type := _, pos := _, after := _, guard := _ }) (v := ?_) rfl (by kernel_rfl) (by kernel_rfl) (by kernel_rfl) (by kernel_rfl) (fun _ _ _ h => h) (Or.inl ⟨by rfl, ?_⟩) (by assumption) ?_
  rotate_left 1
  · intro v hSv
    have hv1 := LE.out v hSv
    clear hSv
    go_simp
    try with_reducible rfl
  try simp only [Act.put, List.setIfInBounds_toArray, List.set_cons_zero, List.set_cons_succ]
  refine HeldT.one (i := 4) (o := { dst := some 12, op := .alloc _, type := _, pos := _, after := _, guard := _ }) (by kernel_rfl) rfl rfl (fun K hK => ?_)
  go_wp2_with fail
  refine hK.out _ _ (fun _ => ((Below.refl _ _).alloc (Nat.le_refl _) _).drew) (fun hS => ?_)
  have hHeld := hS (by decide)
  clear hS hK K
  try simp only [Act.put, List.setIfInBounds_toArray, List.set_cons_zero, List.set_cons_succ]
  refine HeldT.take (i := 5) (oi := { dst := some 11, op := .assign (.tmp 28), type := _, pos := _, after := _, guard := _ }) (v := ?_) rfl (by kernel_rfl) (by kernel_rfl) (by kernel_rfl) (by kernel_rfl) (fun _ _ _ h => h) (Or.inl ⟨by rfl, ?_⟩) (by assumption) ?_
  rotate_left 1
  · intro v hSv
    clear hSv
    go_simp
    try with_reducible rfl
  try simp only [Act.put, List.setIfInBounds_toArray, List.set_cons_zero, List.set_cons_succ]
  have st : stA 27 (w3.alloc (.cells (enC ⟨z26, none, [], 0⟩).toArray 27)).drew (.pointer (some ⟨w3.heap.size, 0, none⟩)) (.agg (enC x).toArray) = .ok .skip (w3.alloc (.cells (enC x).toArray 27)).drew :=
    stE_new (w := w3.drew) (e := x) (z := ⟨z26, none, [], 0⟩) HXO.out.key rfl
  obtain ⟨Y, hY⟩ : ∃ Y, Y = (w3.alloc (.cells (enC x).toArray 27)).drew := ⟨_, rfl⟩
  have hBY : Below w3.heap.size w3 Y := by rw [hY]; exact ((Below.refl _ _).alloc (Nat.le_refl _) _).drew
  have hrY : Y.rangeAt w3.heap.size 0 (enC x) := by rw [hY]; exact ent_made w3 x _
  have hsY : w3.heap.size < Y.heap.size := by rw [hY]; show w3.heap.size < (w3.alloc _).heap.size; simp
  have HY := Lib.hid hY
  have HBY := Lib.hid hBY
  have HRY := Lib.hid hrY
  have HSY := Lib.hid hsY
  have HQ4 := Lib.hid (HQ3.out.below nd hBY)
  clear hY hBY hrY hsY hHeld
  refine HeldT.one (i := 6) (o := { dst := none, op := .store _ (.tmp 12) (.tmp 30), type := _, pos := _, after := _, guard := _ }) (by kernel_rfl) rfl rfl (fun K hK => ?_)
  go_wp2_with fail
  refine hK.out _ _ (fun h => absurd rfl h) (fun _ => ?_)
  clear hK K
  try simp only [Act.put, List.setIfInBounds_toArray, List.set_cons_zero, List.set_cons_succ]
  refine HeldT.done (by kernel_rfl) ?_ _
  rw [← HY.out]
  have lv := range_val HRY.out HXO.out.key
  rw [Nat.zero_add] at lv
  have e2 : decide (200 < (x.v.length : Int)) = true := decide_eq_true (by have := HDD.out; omega)
  have e1 : decide (200 < x.v.length) = true := decide_eq_true HDD.out
  clear st LD LE HY HQ3
  have HAL := Lib.hid (alive9_c nd fv pv Y HQ4.out.fs.vars)
  go_wp2_with fail
  refine HAL.out.mono ?_
  rintro _ w4 ⟨rfl, hB⟩
  have HQ5 := Lib.hid (HQ4.out.below nd hB)
  clear hB HAL HQ4
  go_wp2_with fail
  go_ret
  exact ⟨rfl, HB0.out.trans (HQ5.out.fs.bel.mono HB0.out.size)⟩
set_option maxHeartbeats 16000000 in
set_option maxRecDepth 100000 in
theorem putat_low {M : World → Int → Tv → Prop} (nd : NdV M) (fv : FnV M) (pv : PtV M) (n : Int) (A : Option Addr) (c : Nat) (es : List En) (x : En) (d : Int) (W : World) (hA : EA W A es) (hl : es.length ≤ 12) (hvl : ∀ e ∈ es, e.v.length ≤ 1000) (hf : fewK (es.map En.ent) = true) (hvx : Vars W) (h0 : 0 ≤ n) (h1 : n ≤ 256) (hx : EnOk W x) (hq : x.v.length ≤ 200 ∧ d < 0) :
    Calls Tryd.prog 6 #[.int .i64 n, .slice A es.length c, .agg (edC x d).toArray] W (Aye W) := by
  obtain ⟨X, hX⟩ : ∃ X, X = W.alloc (.cells (edC x d).toArray 49) := ⟨_, rfl⟩
  have hb0 : Below W.heap.size W X := by rw [hX]; exact (Below.refl _ _).alloc (Nat.le_refl _) _
  have hr0 : X.rangeAt W.heap.size 0 (enC x) := by rw [hX]; exact ed_range
  have hd0 : X.cell? ⟨W.heap.size, 33, none⟩ = some (.int .i64 d) := by rw [hX]; exact ed_depth hx.key
  have HR0 := Lib.hid hr0
  have HD0 := Lib.hid hd0
  have HXO := Lib.hid (hx.below hb0)
  clear hr0 hd0 hx
  have HX := Lib.hid hX
  have HB0 := Lib.hid hb0
  have HDD := Lib.hid hq
  have HT := Lib.hid (tree_in nd n A c es X (hA.below hb0) hl hvl hf (hvx.below hb0) h0 h1)
  have HVE : Hid (∀ e ∈ ofE es, e.v.length ≤ 1000) := fun e he => hvl e (ofE_mem he)
  have HLE : Hid ((ofE es).length ≤ 12) := Nat.le_trans (ofE_len es) hl
  clear hA hvl hf hvx hX hb0 hq
  go_enter Tryd.func6, Tryd.ntmps6
  go_wp2_with fail
  rw [← HX.out]
  clear HX
  refine HT.out.mono ?_
  rintro _ w2 ⟨A2, c2, T, rfl, hc2, hI, hF⟩
  have HI := Lib.hid hI
  have HF2 := Lib.hid hF
  have HC2 := Lib.hid hc2
  obtain ⟨O, hO⟩ : ∃ O, O = ofE es := ⟨_, rfl⟩
  rw [← hO] at HI HF2 HVE HLE HC2 ⊢
  obtain ⟨pT, hpT⟩ := val_ptr nd hF.ms
  have HPT := Lib.hid hpT
  rw [hpT]
  have HH := Lib.hid (hash_in n w2 h0 h1)
  clear hc2 hI hF HT hO hpT
  go_wp2_with fail
  refine HH.out.mono ?_
  rintro _ w3 ⟨b, rfl, hbn, hH, hB⟩
  have HQ3 : Hid (Tf M X n A2 O T b 0 w3) := ⟨HF2.out.below nd hB, ⟨0, Nat.le_refl _, hH⟩, Nat.le_trans HF2.out.bel.size hbn⟩
  clear hH hbn hB HH HF2
  unfold ptr
  have LD : Hid (∀ v, Below w3.heap.size w3 v → v.cell? ⟨W.heap.size, 33, none⟩ = some (.int .i64 d)) := fun v hv => by
    have hs := lt_of_cell HD0.out
    have hb := HQ3.out.fs.bel
    have hz := hb.size
    rw [hv.cell (by show W.heap.size < _; exact Nat.lt_of_lt_of_le hs hz), hb.cell hs]
    exact HD0.out
  have LE : Hid (∀ v, Below w3.heap.size w3 v → ldA 27 v (.pointer (some ⟨W.heap.size, 0, none⟩)) = .ok (.value (.agg (enC x).toArray)) v) := fun v hv => range_ent (range_below (range_below HR0.out HQ3.out.fs.bel) hv) HXO.out.key
  go_wp2_with fail
  refine region_heldT 6 (fun v => Below w3.heap.size w3 v) (by kernel_rfl) ?_
  have hHeld : Below w3.heap.size w3 w3.drew := (Below.refl _ _).drew
  refine HeldT.take (i := 0) (oi := { dst := some 27, op := .fieldAddr _ (.tmp 5) 1, type := _, pos := _, after := _, guard := _ }) (v := ?_) rfl (by kernel_rfl) (by kernel_rfl) (by kernel_rfl) (by kernel_rfl) (fun _ _ _ h => h) (Or.inl ⟨by rfl, ?_⟩) (by assumption) ?_
  rotate_left 1
  · intro v hSv
    clear hSv
    go_simp
    try with_reducible rfl
  try simp only [Act.put, List.setIfInBounds_toArray, List.set_cons_zero, List.set_cons_succ]
  refine HeldT.take (i := 1) (oi := { dst := some 28, op := .load _ (.tmp 27), type := _, pos := _, after := _, guard := _ }) (v := ?_) rfl (by kernel_rfl) (by kernel_rfl) (by kernel_rfl) (by kernel_rfl) (fun _ _ _ h => h) (Or.inl ⟨by rfl, ?_⟩) (by assumption) ?_
  rotate_left 1
  · intro v hSv
    have hv1 := LD.out v hSv
    clear hSv
    go_simp
    try with_reducible rfl
  try simp only [Act.put, List.setIfInBounds_toArray, List.set_cons_zero, List.set_cons_succ]
  refine HeldT.take (i := 2) (oi := { dst := some 29, op := .fieldAddr _ (.tmp 5) 0, type := _, pos := _, after := _, guard := _ }) (v := ?_) rfl (by kernel_rfl) (by kernel_rfl) (by kernel_rfl) (by kernel_rfl) (fun _ _ _ h => h) (Or.inl ⟨by rfl, ?_⟩) (by assumption) ?_
  rotate_left 1
  · intro v hSv
    clear hSv
    go_simp
    try with_reducible rfl
  try simp only [Act.put, List.setIfInBounds_toArray, List.set_cons_zero, List.set_cons_succ]
  refine HeldT.take (i := 3) (oi := { dst := some 30, op := .load _ (.tmp 29), type := _, pos := _, after := _, guard := _ }) (v := ?_) rfl (by kernel_rfl) (by kernel_rfl) (by kernel_rfl) (by kernel_rfl) (fun _ _ _ h => h) (Or.inl ⟨by rfl, ?_⟩) (by assumption) ?_
  rotate_left 1
  · intro v hSv
    have hv1 := LE.out v hSv
    clear hSv
    go_simp
    try with_reducible rfl
  try simp only [Act.put, List.setIfInBounds_toArray, List.set_cons_zero, List.set_cons_succ]
  refine HeldT.one (i := 4) (o := { dst := some 12, op := .alloc _, type := _, pos := _, after := _, guard := _ }) (by kernel_rfl) rfl rfl (fun K hK => ?_)
  go_wp2_with fail
  refine hK.out _ _ (fun _ => ((Below.refl _ _).alloc (Nat.le_refl _) _).drew) (fun hS => ?_)
  have hHeld := hS (by decide)
  clear hS hK K
  try simp only [Act.put, List.setIfInBounds_toArray, List.set_cons_zero, List.set_cons_succ]
  refine HeldT.take (i := 5) (oi := { dst := some 11, op := .assign (.tmp 28), type := _, pos := _, after := _, guard := _ }) (v := ?_) rfl (by kernel_rfl) (by kernel_rfl) (by kernel_rfl) (by kernel_rfl) (fun _ _ _ h => h) (Or.inl ⟨by rfl, ?_⟩) (by assumption) ?_
  rotate_left 1
  · intro v hSv
    clear hSv
    go_simp
    try with_reducible rfl
  try simp only [Act.put, List.setIfInBounds_toArray, List.set_cons_zero, List.set_cons_succ]
  have st : stA 27 (w3.alloc (.cells (enC ⟨z26, none, [], 0⟩).toArray 27)).drew (.pointer (some ⟨w3.heap.size, 0, none⟩)) (.agg (enC x).toArray) = .ok .skip (w3.alloc (.cells (enC x).toArray 27)).drew :=
    stE_new (w := w3.drew) (e := x) (z := ⟨z26, none, [], 0⟩) HXO.out.key rfl
  obtain ⟨Y, hY⟩ : ∃ Y, Y = (w3.alloc (.cells (enC x).toArray 27)).drew := ⟨_, rfl⟩
  have hBY : Below w3.heap.size w3 Y := by rw [hY]; exact ((Below.refl _ _).alloc (Nat.le_refl _) _).drew
  have hrY : Y.rangeAt w3.heap.size 0 (enC x) := by rw [hY]; exact ent_made w3 x _
  have hsY : w3.heap.size < Y.heap.size := by rw [hY]; show w3.heap.size < (w3.alloc _).heap.size; simp
  have HY := Lib.hid hY
  have HBY := Lib.hid hBY
  have HRY := Lib.hid hrY
  have HSY := Lib.hid hsY
  have HQ4 := Lib.hid (HQ3.out.below nd hBY)
  clear hY hBY hrY hsY hHeld
  refine HeldT.one (i := 6) (o := { dst := none, op := .store _ (.tmp 12) (.tmp 30), type := _, pos := _, after := _, guard := _ }) (by kernel_rfl) rfl rfl (fun K hK => ?_)
  go_wp2_with fail
  refine hK.out _ _ (fun h => absurd rfl h) (fun _ => ?_)
  clear hK K
  try simp only [Act.put, List.setIfInBounds_toArray, List.set_cons_zero, List.set_cons_succ]
  refine HeldT.done (by kernel_rfl) ?_ _
  rw [← HY.out]
  have lv := range_val HRY.out HXO.out.key
  rw [Nat.zero_add] at lv
  have e2 : decide (200 < (x.v.length : Int)) = false := decide_eq_false (by have := HDD.out.1; omega)
  have e1 : decide (200 < x.v.length) = false := decide_eq_false (by have := HDD.out.1; omega)
  have q1 : decide (d < 0) = true := decide_eq_true HDD.out.2
  clear st LD LE HY HQ3
  have HAL := Lib.hid (alive9_c nd fv pv Y HQ4.out.fs.vars)
  go_wp2_with fail
  refine HAL.out.mono ?_
  rintro _ w4 ⟨rfl, hB⟩
  have HQ5 := Lib.hid (HQ4.out.below nd hB)
  clear hB HAL HQ4
  go_wp2_with fail
  go_ret
  exact ⟨rfl, HB0.out.trans (HQ5.out.fs.bel.mono HB0.out.size)⟩
set_option maxHeartbeats 16000000 in
set_option maxRecDepth 100000 in
theorem putat_deep {M : World → Int → Tv → Prop} (nd : NdV M) (fv : FnV M) (pv : PtV M) (n : Int) (A : Option Addr) (c : Nat) (es : List En) (x : En) (d : Int) (W : World) (hA : EA W A es) (hl : es.length ≤ 12) (hvl : ∀ e ∈ es, e.v.length ≤ 1000) (hf : fewK (es.map En.ent) = true) (hvx : Vars W) (h0 : 0 ≤ n) (h1 : n ≤ 256) (hx : EnOk W x) (hq : x.v.length ≤ 200 ∧ 256 < d) :
    Calls Tryd.prog 6 #[.int .i64 n, .slice A es.length c, .agg (edC x d).toArray] W (Aye W) := by
  obtain ⟨X, hX⟩ : ∃ X, X = W.alloc (.cells (edC x d).toArray 49) := ⟨_, rfl⟩
  have hb0 : Below W.heap.size W X := by rw [hX]; exact (Below.refl _ _).alloc (Nat.le_refl _) _
  have hr0 : X.rangeAt W.heap.size 0 (enC x) := by rw [hX]; exact ed_range
  have hd0 : X.cell? ⟨W.heap.size, 33, none⟩ = some (.int .i64 d) := by rw [hX]; exact ed_depth hx.key
  have HR0 := Lib.hid hr0
  have HD0 := Lib.hid hd0
  have HXO := Lib.hid (hx.below hb0)
  clear hr0 hd0 hx
  have HX := Lib.hid hX
  have HB0 := Lib.hid hb0
  have HDD := Lib.hid hq
  have HT := Lib.hid (tree_in nd n A c es X (hA.below hb0) hl hvl hf (hvx.below hb0) h0 h1)
  have HVE : Hid (∀ e ∈ ofE es, e.v.length ≤ 1000) := fun e he => hvl e (ofE_mem he)
  have HLE : Hid ((ofE es).length ≤ 12) := Nat.le_trans (ofE_len es) hl
  clear hA hvl hf hvx hX hb0 hq
  go_enter Tryd.func6, Tryd.ntmps6
  go_wp2_with fail
  rw [← HX.out]
  clear HX
  refine HT.out.mono ?_
  rintro _ w2 ⟨A2, c2, T, rfl, hc2, hI, hF⟩
  have HI := Lib.hid hI
  have HF2 := Lib.hid hF
  have HC2 := Lib.hid hc2
  obtain ⟨O, hO⟩ : ∃ O, O = ofE es := ⟨_, rfl⟩
  rw [← hO] at HI HF2 HVE HLE HC2 ⊢
  obtain ⟨pT, hpT⟩ := val_ptr nd hF.ms
  have HPT := Lib.hid hpT
  rw [hpT]
  have HH := Lib.hid (hash_in n w2 h0 h1)
  clear hc2 hI hF HT hO hpT
  go_wp2_with fail
  refine HH.out.mono ?_
  rintro _ w3 ⟨b, rfl, hbn, hH, hB⟩
  have HQ3 : Hid (Tf M X n A2 O T b 0 w3) := ⟨HF2.out.below nd hB, ⟨0, Nat.le_refl _, hH⟩, Nat.le_trans HF2.out.bel.size hbn⟩
  clear hH hbn hB HH HF2
  unfold ptr
  have LD : Hid (∀ v, Below w3.heap.size w3 v → v.cell? ⟨W.heap.size, 33, none⟩ = some (.int .i64 d)) := fun v hv => by
    have hs := lt_of_cell HD0.out
    have hb := HQ3.out.fs.bel
    have hz := hb.size
    rw [hv.cell (by show W.heap.size < _; exact Nat.lt_of_lt_of_le hs hz), hb.cell hs]
    exact HD0.out
  have LE : Hid (∀ v, Below w3.heap.size w3 v → ldA 27 v (.pointer (some ⟨W.heap.size, 0, none⟩)) = .ok (.value (.agg (enC x).toArray)) v) := fun v hv => range_ent (range_below (range_below HR0.out HQ3.out.fs.bel) hv) HXO.out.key
  go_wp2_with fail
  refine region_heldT 6 (fun v => Below w3.heap.size w3 v) (by kernel_rfl) ?_
  have hHeld : Below w3.heap.size w3 w3.drew := (Below.refl _ _).drew
  refine HeldT.take (i := 0) (oi := { dst := some 27, op := .fieldAddr _ (.tmp 5) 1, type := _, pos := _, after := _, guard := _ }) (v := ?_) rfl (by kernel_rfl) (by kernel_rfl) (by kernel_rfl) (by kernel_rfl) (fun _ _ _ h => h) (Or.inl ⟨by rfl, ?_⟩) (by assumption) ?_
  rotate_left 1
  · intro v hSv
    clear hSv
    go_simp
    try with_reducible rfl
  try simp only [Act.put, List.setIfInBounds_toArray, List.set_cons_zero, List.set_cons_succ]
  refine HeldT.take (i := 1) (oi := { dst := some 28, op := .load _ (.tmp 27), type := _, pos := _, after := _, guard := _ }) (v := ?_) rfl (by kernel_rfl) (by kernel_rfl) (by kernel_rfl) (by kernel_rfl) (fun _ _ _ h => h) (Or.inl ⟨by rfl, ?_⟩) (by assumption) ?_
  rotate_left 1
  · intro v hSv
    have hv1 := LD.out v hSv
    clear hSv
    go_simp
    try with_reducible rfl
  try simp only [Act.put, List.setIfInBounds_toArray, List.set_cons_zero, List.set_cons_succ]
  refine HeldT.take (i := 2) (oi := { dst := some 29, op := .fieldAddr _ (.tmp 5) 0, type := _, pos := _, after := _, guard := _ }) (v := ?_) rfl (by kernel_rfl) (by kernel_rfl) (by kernel_rfl) (by kernel_rfl) (fun _ _ _ h => h) (Or.inl ⟨by rfl, ?_⟩) (by assumption) ?_
  rotate_left 1
  · intro v hSv
    clear hSv
    go_simp
    try with_reducible rfl
  try simp only [Act.put, List.setIfInBounds_toArray, List.set_cons_zero, List.set_cons_succ]
  refine HeldT.take (i := 3) (oi := { dst := some 30, op := .load _ (.tmp 29), type := _, pos := _, after := _, guard := _ }) (v := ?_) rfl (by kernel_rfl) (by kernel_rfl) (by kernel_rfl) (by kernel_rfl) (fun _ _ _ h => h) (Or.inl ⟨by rfl, ?_⟩) (by assumption) ?_
  rotate_left 1
  · intro v hSv
    have hv1 := LE.out v hSv
    clear hSv
    go_simp
    try with_reducible rfl
  try simp only [Act.put, List.setIfInBounds_toArray, List.set_cons_zero, List.set_cons_succ]
  refine HeldT.one (i := 4) (o := { dst := some 12, op := .alloc _, type := _, pos := _, after := _, guard := _ }) (by kernel_rfl) rfl rfl (fun K hK => ?_)
  go_wp2_with fail
  refine hK.out _ _ (fun _ => ((Below.refl _ _).alloc (Nat.le_refl _) _).drew) (fun hS => ?_)
  have hHeld := hS (by decide)
  clear hS hK K
  try simp only [Act.put, List.setIfInBounds_toArray, List.set_cons_zero, List.set_cons_succ]
  refine HeldT.take (i := 5) (oi := { dst := some 11, op := .assign (.tmp 28), type := _, pos := _, after := _, guard := _ }) (v := ?_) rfl (by kernel_rfl) (by kernel_rfl) (by kernel_rfl) (by kernel_rfl) (fun _ _ _ h => h) (Or.inl ⟨by rfl, ?_⟩) (by assumption) ?_
  rotate_left 1
  · intro v hSv
    clear hSv
    go_simp
    try with_reducible rfl
  try simp only [Act.put, List.setIfInBounds_toArray, List.set_cons_zero, List.set_cons_succ]
  have st : stA 27 (w3.alloc (.cells (enC ⟨z26, none, [], 0⟩).toArray 27)).drew (.pointer (some ⟨w3.heap.size, 0, none⟩)) (.agg (enC x).toArray) = .ok .skip (w3.alloc (.cells (enC x).toArray 27)).drew :=
    stE_new (w := w3.drew) (e := x) (z := ⟨z26, none, [], 0⟩) HXO.out.key rfl
  obtain ⟨Y, hY⟩ : ∃ Y, Y = (w3.alloc (.cells (enC x).toArray 27)).drew := ⟨_, rfl⟩
  have hBY : Below w3.heap.size w3 Y := by rw [hY]; exact ((Below.refl _ _).alloc (Nat.le_refl _) _).drew
  have hrY : Y.rangeAt w3.heap.size 0 (enC x) := by rw [hY]; exact ent_made w3 x _
  have hsY : w3.heap.size < Y.heap.size := by rw [hY]; show w3.heap.size < (w3.alloc _).heap.size; simp
  have HY := Lib.hid hY
  have HBY := Lib.hid hBY
  have HRY := Lib.hid hrY
  have HSY := Lib.hid hsY
  have HQ4 := Lib.hid (HQ3.out.below nd hBY)
  clear hY hBY hrY hsY hHeld
  refine HeldT.one (i := 6) (o := { dst := none, op := .store _ (.tmp 12) (.tmp 30), type := _, pos := _, after := _, guard := _ }) (by kernel_rfl) rfl rfl (fun K hK => ?_)
  go_wp2_with fail
  refine hK.out _ _ (fun h => absurd rfl h) (fun _ => ?_)
  clear hK K
  try simp only [Act.put, List.setIfInBounds_toArray, List.set_cons_zero, List.set_cons_succ]
  refine HeldT.done (by kernel_rfl) ?_ _
  rw [← HY.out]
  have lv := range_val HRY.out HXO.out.key
  rw [Nat.zero_add] at lv
  have e2 : decide (200 < (x.v.length : Int)) = false := decide_eq_false (by have := HDD.out.1; omega)
  have e1 : decide (200 < x.v.length) = false := decide_eq_false (by have := HDD.out.1; omega)
  have q1 : decide (d < 0) = false := decide_eq_false (by have := HDD.out.2; omega)
  have q2 : decide (256 < d) = true := decide_eq_true HDD.out.2
  clear st LD LE HY HQ3
  have HAL := Lib.hid (alive9_c nd fv pv Y HQ4.out.fs.vars)
  go_wp2_with fail
  refine HAL.out.mono ?_
  rintro _ w4 ⟨rfl, hB⟩
  have HQ5 := Lib.hid (HQ4.out.below nd hB)
  clear hB HAL HQ4
  go_wp2_with fail
  go_ret
  exact ⟨rfl, HB0.out.trans (HQ5.out.fs.bel.mono HB0.out.size)⟩
set_option maxHeartbeats 4000000 in
set_option maxRecDepth 100000 in
/-- Other bits, or entries that are not few: alive. -/
theorem putat_out {M : World → Int → Tv → Prop} (nd : NdV M) (fv : FnV M) (pv : PtV M) (n : Int) (A : Option Addr) (c : Nat) (es : List En) (x : En) (d : Int) (W : World) (hA : EA W A es) (hvx : Vars W) (h : (n < 0 ∨ 256 < n) ∨ fewK (es.map En.ent) = false) (hx : EnOk W x) :
    Calls Tryd.prog 6 #[.int .i64 n, .slice A es.length c, .agg (edC x d).toArray] W (Aye W) := by
  obtain ⟨X, hX⟩ : ∃ X, X = W.alloc (.cells (edC x d).toArray 49) := ⟨_, rfl⟩
  have hb0 : Below W.heap.size W X := by rw [hX]; exact (Below.refl _ _).alloc (Nat.le_refl _) _
  have hr0 : X.rangeAt W.heap.size 0 (enC x) := by rw [hX]; exact ed_range
  have hd0 : X.cell? ⟨W.heap.size, 33, none⟩ = some (.int .i64 d) := by rw [hX]; exact ed_depth hx.key
  have HR0 := Lib.hid hr0
  have HD0 := Lib.hid hd0
  have HXO := Lib.hid (hx.below hb0)
  have HX := Lib.hid hX
  have HB0 := Lib.hid hb0
  have HVX := Lib.hid (hvx.below hb0)
  have HT := Lib.hid (tree_out n A c es X (hA.below hb0) h)
  have HAL := Lib.hid (fun w h => alive9_c nd fv pv w h)
  clear hr0 hd0 hA hvx h hX hb0 hx
  go_enter Tryd.func6, Tryd.ntmps6
  go_wp2_with fail
  rw [← HX.out]
  clear HX
  refine HT.out.mono ?_
  rintro _ w2 ⟨rfl, hB⟩
  have HB := Lib.hid hB
  clear hB HT
  go_wp2_with fail
  refine (hash_any n w2).mono ?_
  rintro _ w3 ⟨p, rfl, hB⟩
  have HB3 := Lib.hid (HB.out.trans (hB.mono HB.out.size))
  clear hB HB
  have LD : Hid (∀ v, Below w3.heap.size w3 v → v.cell? ⟨W.heap.size, 33, none⟩ = some (.int .i64 d)) := fun v hv => by
    have hs := lt_of_cell HD0.out
    have hb := HB3.out
    have hz := hb.size
    rw [hv.cell (by show W.heap.size < _; exact Nat.lt_of_lt_of_le hs hz), hb.cell hs]
    exact HD0.out
  have LE : Hid (∀ v, Below w3.heap.size w3 v → ldA 27 v (.pointer (some ⟨W.heap.size, 0, none⟩)) = .ok (.value (.agg (enC x).toArray)) v) := fun v hv => range_ent (range_below (range_below HR0.out HB3.out) hv) HXO.out.key
  go_wp2_with fail
  refine region_heldT 6 (fun v => Below w3.heap.size w3 v) (by kernel_rfl) ?_
  have hHeld : Below w3.heap.size w3 w3.drew := (Below.refl _ _).drew
  refine HeldT.take (i := 0) (oi := { dst := some 27, op := .fieldAddr _ (.tmp 5) 1, type := _, pos := _, after := _, guard := _ }) (v := ?_) rfl (by kernel_rfl) (by kernel_rfl) (by kernel_rfl) (by kernel_rfl) (fun _ _ _ h => h) (Or.inl ⟨by rfl, ?_⟩) (by assumption) ?_
  rotate_left 1
  · intro v hSv
    clear hSv
    go_simp
    try with_reducible rfl
  try simp only [Act.put, List.setIfInBounds_toArray, List.set_cons_zero, List.set_cons_succ]
  refine HeldT.take (i := 1) (oi := { dst := some 28, op := .load _ (.tmp 27), type := _, pos := _, after := _, guard := _ }) (v := ?_) rfl (by kernel_rfl) (by kernel_rfl) (by kernel_rfl) (by kernel_rfl) (fun _ _ _ h => h) (Or.inl ⟨by rfl, ?_⟩) (by assumption) ?_
  rotate_left 1
  · intro v hSv
    have hv1 := LD.out v hSv
    clear hSv
    go_simp
    try with_reducible rfl
  try simp only [Act.put, List.setIfInBounds_toArray, List.set_cons_zero, List.set_cons_succ]
  refine HeldT.take (i := 2) (oi := { dst := some 29, op := .fieldAddr _ (.tmp 5) 0, type := _, pos := _, after := _, guard := _ }) (v := ?_) rfl (by kernel_rfl) (by kernel_rfl) (by kernel_rfl) (by kernel_rfl) (fun _ _ _ h => h) (Or.inl ⟨by rfl, ?_⟩) (by assumption) ?_
  rotate_left 1
  · intro v hSv
    clear hSv
    go_simp
    try with_reducible rfl
  try simp only [Act.put, List.setIfInBounds_toArray, List.set_cons_zero, List.set_cons_succ]
  refine HeldT.take (i := 3) (oi := { dst := some 30, op := .load _ (.tmp 29), type := _, pos := _, after := _, guard := _ }) (v := ?_) rfl (by kernel_rfl) (by kernel_rfl) (by kernel_rfl) (by kernel_rfl) (fun _ _ _ h => h) (Or.inl ⟨by rfl, ?_⟩) (by assumption) ?_
  rotate_left 1
  · intro v hSv
    have hv1 := LE.out v hSv
    clear hSv
    go_simp
    try with_reducible rfl
  try simp only [Act.put, List.setIfInBounds_toArray, List.set_cons_zero, List.set_cons_succ]
  refine HeldT.one (i := 4) (o := { dst := some 12, op := .alloc _, type := _, pos := _, after := _, guard := _ }) (by kernel_rfl) rfl rfl (fun K hK => ?_)
  go_wp2_with fail
  refine hK.out _ _ (fun _ => ((Below.refl _ _).alloc (Nat.le_refl _) _).drew) (fun hS => ?_)
  have hHeld := hS (by decide)
  clear hS hK K
  try simp only [Act.put, List.setIfInBounds_toArray, List.set_cons_zero, List.set_cons_succ]
  refine HeldT.take (i := 5) (oi := { dst := some 11, op := .assign (.tmp 28), type := _, pos := _, after := _, guard := _ }) (v := ?_) rfl (by kernel_rfl) (by kernel_rfl) (by kernel_rfl) (by kernel_rfl) (fun _ _ _ h => h) (Or.inl ⟨by rfl, ?_⟩) (by assumption) ?_
  rotate_left 1
  · intro v hSv
    clear hSv
    go_simp
    try with_reducible rfl
  try simp only [Act.put, List.setIfInBounds_toArray, List.set_cons_zero, List.set_cons_succ]
  have st : stA 27 (w3.alloc (.cells (enC ⟨z26, none, [], 0⟩).toArray 27)).drew (.pointer (some ⟨w3.heap.size, 0, none⟩)) (.agg (enC x).toArray) = .ok .skip (w3.alloc (.cells (enC x).toArray 27)).drew :=
    stE_new (w := w3.drew) (e := x) (z := ⟨z26, none, [], 0⟩) HXO.out.key rfl
  obtain ⟨Y, hY⟩ : ∃ Y, Y = (w3.alloc (.cells (enC x).toArray 27)).drew := ⟨_, rfl⟩
  have hBY : Below w3.heap.size w3 Y := by rw [hY]; exact ((Below.refl _ _).alloc (Nat.le_refl _) _).drew
  have hrY : Y.rangeAt w3.heap.size 0 (enC x) := by rw [hY]; exact ent_made w3 x _
  have hsY : w3.heap.size < Y.heap.size := by rw [hY]; show w3.heap.size < (w3.alloc _).heap.size; simp
  have HY := Lib.hid hY
  have HBY := Lib.hid hBY
  have HRY := Lib.hid hrY
  have HSY := Lib.hid hsY
  have HB4 := Lib.hid (HB3.out.trans (hBY.mono HB3.out.size))
  clear hY hBY hrY hsY hHeld
  refine HeldT.one (i := 6) (o := { dst := none, op := .store _ (.tmp 12) (.tmp 30), type := _, pos := _, after := _, guard := _ }) (by kernel_rfl) rfl rfl (fun K hK => ?_)
  go_wp2_with fail
  refine hK.out _ _ (fun h => absurd rfl h) (fun _ => ?_)
  clear hK K
  try simp only [Act.put, List.setIfInBounds_toArray, List.set_cons_zero, List.set_cons_succ]
  refine HeldT.done (by kernel_rfl) ?_ _
  rw [← HY.out]
  clear st LD LE HY
  go_wp2_with fail
  refine (HAL.out Y (HVX.out.below HB4.out)).mono ?_
  rintro _ w4 ⟨rfl, hB⟩
  have HB5 := Lib.hid (HB4.out.trans (hB.mono HB4.out.size))
  clear hB
  go_wp2_with fail
  go_ret
  exact ⟨rfl, HB0.out.trans (HB5.out.mono HB0.out.size)⟩
theorem putat_w {M : World → Int → Tv → Prop} (nd : NdV M) (fv : FnV M) (pv : PtV M) (n : Int) (A : Option Addr) (c : Nat) (es : List En) (x : En) (d : Int) (W : World) (hA : EA W A es) (hvx : Vars W) (hx : EnOk W x) :
    Calls Tryd.prog 6 #[.int .i64 n, .slice A es.length c, .agg (edC x d).toArray] W (Aye W) := by
  rcases Classical.em ((n < 0 ∨ 256 < n) ∨ fewK (es.map En.ent) = false) with h | h
  · exact putat_out nd fv pv n A c es x d W hA hvx h hx
  · have hf : fewK (es.map En.ent) = true := by
      cases hq : fewK (es.map En.ent) with
      | true => rfl
      | false => exact absurd (.inr hq) h
    have hl := few_len hf
    rw [List.length_map] at hl
    have hvl : ∀ e ∈ es, e.v.length ≤ 1000 := fun e he => Nat.le_trans (few_val hf e.ent (List.mem_map.2 ⟨e, he, rfl⟩)) (by decide)
    rcases Nat.lt_or_ge 200 x.v.length with hv | hv
    · exact putat_long nd fv pv n A c es x d W hA hl hvl hf hvx (by omega) (by omega) hx hv
    · rcases Int.lt_or_le d 0 with hd | hd
      · exact putat_low nd fv pv n A c es x d W hA hl hvl hf hvx (by omega) (by omega) hx ⟨hv, hd⟩
      · rcases Int.lt_or_le 256 d with hd2 | hd2
        · exact putat_deep nd fv pv n A c es x d W hA hl hvl hf hvx (by omega) (by omega) hx ⟨hv, hd2⟩
        · obtain ⟨q, rfl⟩ : ∃ q : Nat, d = (q : Int) := ⟨d.toNat, by omega⟩
          exact putat_in nd fv pv n A c es x q W hA hl hvl hf hvx (by omega) (by omega) hx hv (by omega)
end Go.Proofs.YtmgablpnggoabaaDoor
