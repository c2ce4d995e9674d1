/- Several texts in one: Yg Yj. -/
import Derived.Test.YtjhpnlnghaljaaaDoorOm
import Derived.Test.YtjhpnlnghaljaaaDoorMY
import Derived.Test.YtjhpnlnghaljaaaDoorMV
/- The walk of RemoveAt over contracts. -/
namespace Go.Proofs.YtjhpnlnghaljaaaDoor
open Go.RowKit

set_option maxHeartbeats 16000000 in
set_option maxRecDepth 100000 in
theorem rat_in {M : World → Int → Tv → Prop} (nd : NdV M) (fv : FnV M) (pv : PtV M) (rm : RmV M) (n : Int) (A : Option Addr) (c : Nat) (es : List En) (k : List UInt8) (q : Nat) (hk : k.length = 32) (W : World) (hA : EA W A es) (hl : es.length ≤ 12) (hvl : ∀ e ∈ es, e.v.length ≤ 1000) (hf : fewK (es.map En.ent) = true) (hvx : Vars W) (h0 : 0 ≤ n) (h1 : n ≤ 256) (hq : q ≤ 256) :
    Calls Tryd.prog 7 #[.int .i64 n, .slice A es.length c, .agg (k.map bv ++ [Value.int .i64 (q : Int)]).toArray] W (Aye W) := by
  obtain ⟨X, hX⟩ : ∃ X, X = W.alloc (.cells (k.map bv ++ [Value.int .i64 (q : Int)]).toArray 54) := ⟨_, rfl⟩
  have hb0 : Below W.heap.size W X := by rw [hX]; exact (Below.refl _ _).alloc (Nat.le_refl _) _
  have hg0 : X.heap[W.heap.size]? = some (.cells (k.map bv ++ [Value.int .i64 (q : Int)]).toArray 54 (0, 0)) := by rw [hX]; exact heap_alloc_new W _
  have hs0 : W.heap.size < X.heap.size := by rw [hX]; simp
  have HG0 := Lib.hid hg0
  have HS0 := Lib.hid hs0
  have HK := Lib.hid hk
  have HQL := Lib.hid hq
  clear hg0 hs0 hq
  have HX := Lib.hid hX
  have HB0 := Lib.hid hb0
  have HT := Lib.hid (tree_in nd n A c es X (hA.below hb0) hl hvl hf (hvx.below hb0) h0 h1)
  have HVE : Hid (∀ e ∈ ofE es, e.v.length ≤ 1000) := fun e he => hvl e (ofE_mem he)
  have HLE : Hid ((ofE es).length ≤ 12) := Nat.le_trans (ofE_len es) hl
  clear hA hvl hf hvx hX hb0
  go_enter Tryd.func7, Tryd.ntmps7
  go_wp2_with fail
  rw [← HX.out]
  clear HX
  refine HT.out.mono ?_
  rintro _ w2 ⟨A2, c2, T, rfl, hc2, hI, hF⟩
  have HI := Lib.hid hI
  have HF2 := Lib.hid hF
  obtain ⟨O, hO⟩ : ∃ O, O = ofE es := ⟨_, rfl⟩
  rw [← hO] at HI HF2 HVE HLE ⊢
  obtain ⟨pT, hpT⟩ := val_ptr nd hF.ms
  have HPT := Lib.hid hpT
  rw [hpT]
  have HH := Lib.hid (hash_in n w2 h0 h1)
  clear hc2 hI hF HT hO hpT
  go_wp2_with fail
  refine HH.out.mono ?_
  rintro _ w3 ⟨b, rfl, hbn, hH, hB⟩
  have HQ3 : Hid (Tf M X n A2 O T b 0 w3) := ⟨HF2.out.below nd hB, ⟨0, Nat.le_refl _, hH⟩, Nat.le_trans HF2.out.bel.size hbn⟩
  clear hH hbn hB HH HF2
  unfold ptr
  have HGB : Hid (∀ v, Keep (fun i => i = b) w3 v → v.heap[W.heap.size]? = some (.cells (k.map bv ++ [Value.int .i64 (q : Int)]).toArray 54 (0, 0))) := fun v hv => hv.heap (by rw [HQ3.out.fs.bel.block _ (lt_of_heap HG0.out)]; exact HG0.out) (by have := HS0.out; have := HQ3.out.new; show W.heap.size ≠ b; omega)
  have LK : Hid (∀ v, Keep (fun i => i = b) w3 v → ldA 24 v (.pointer (some ⟨W.heap.size, 0, none⟩)) = .ok (.value (.agg (bA k))) v) := fun v hv => kb_key (Below.refl _ _) (HGB.out v hv) HK.out
  have LD : Hid (∀ v, Keep (fun i => i = b) w3 v → v.cell? ⟨W.heap.size, 32, none⟩ = some (.int .i64 (q : Int))) := fun v hv => kb_bits (Below.refl _ _) (HGB.out v hv) HK.out
  have lb := LD.out w3 (Keep.refl _ _)
  have q1 : decide ((q : Int) < 0) = false := decide_eq_false (by omega)
  have q2 : decide (256 < (q : Int)) = false := decide_eq_false (by have := HQL.out; omega)
  have q3 : decide (256 < q) = false := decide_eq_false (by have := HQL.out; omega)
  go_wp2_with fail
  have hqL := HQL.out
  have oL := HLE.out
  clear q1 q2 q3 lb
  go_loopg [11, 41] O.length (fun gg out i wr => ∃ m : Nat, i = .int .i64 (m : Int) ∧ m ≤ O.length ∧ O.length - m = gg ∧ OwnE wr w3.heap.size out (underE (O.take m) k q) ∧ Below w3.heap.size w3 wr)
  case atStart => exact ⟨0, rfl, by omega, by omega, OwnE.nil _ _, Below.refl _ _⟩
  case round =>
    obtain ⟨m, rfl, hm, rfl, hO, hB⟩ := hrel
    have HO := Lib.hid hO
    have HB := Lib.hid hB
    obtain ⟨A3, c3, rfl, hc3⟩ := hO.len
    have hln : (underE (O.take m) k q).length ≤ O.length := filter_le O _ m
    obtain ⟨N, hN⟩ : ∃ N, N = (underE (O.take m) k q).length := ⟨_, rfl⟩
    rw [← hN] at HO hln ⊢
    have HN := Lib.hid hN
    have HLN := Lib.hid hln
    clear hO hB hc3 hN hln
    by_cases hlt : m < O.length
    · have hd : decide (m < O.length) = true := decide_eq_true hlt
      obtain ⟨e, he⟩ : ∃ e, O[m]? = some e := ⟨_, List.getElem?_eq_getElem hlt⟩
      obtain ⟨hok, g, o, rfl, hr⟩ := (HQ3.out.fs.ea.below HB.out) m e he
      have HKL := Lib.hid hok.key
      have HE := Lib.hid he
      have p0 : (0 : Int) ≤ (m : Int) := by omega
      have p1 : (m : Int) < (O.length : Int) := by omega
      have le := range_ent hr hok.key
      have st := stE_new (w := wr) (e := e) (z := ⟨z26, none, [], 0⟩) hok.key rfl
      obtain ⟨V, hV⟩ : ∃ V, V = wr.alloc (.cells (enC e).toArray 42) := ⟨_, rfl⟩
      have hbV : Below wr.heap.size wr V := by rw [hV]; exact (Below.refl _ _).alloc (Nat.le_refl _) _
      have hr0 : V.rangeAt wr.heap.size 0 (enC e) := by rw [hV]; exact ent_made wr e _
      have HBV := Lib.hid (HB.out.trans (hbV.mono HB.out.size))
      have HRV := Lib.hid hr0
      have HOV := Lib.hid (HO.out.below hbV)
      have HV := Lib.hid hV
      have HC : Hid (∀ w, Calls Tryd.prog 22 #[.agg (bA e.k), .agg (bA k)] w fun x w' => x = .returned (.int .i64 (comK e.k k)) ∧ Below w.heap.size w w') := fun w => comK_c e.k k HKL.out HK.out w
      obtain ⟨h, hh⟩ : ∃ h, h = comK e.k k := ⟨_, rfl⟩
      rw [← hh] at HC
      have HHC := Lib.hid hh
      clear he hok hr hh hV hbV hr0
      go_wp2_with fail
      rw [← HV.out]
      clear st le HV
      have l1 : ∀ y : Later V, ldA 24 y.w (.pointer (some ⟨wr.heap.size, 0, none⟩)) = .ok (.value (.agg (bA e.k))) y.w := fun y => range_key (range_below HRV.out y.h) HKL.out
      have l2 : ∀ y : Later V, ldA 24 y.w (.pointer (some ⟨W.heap.size, 0, none⟩)) = .ok (.value (.agg (bA k))) y.w := fun y => LK.out y.w (Keep.of_below (HBV.out.trans (y.h.mono HBV.out.size)))
      have l3 : ∀ y : Later V, y.w.cell? ⟨W.heap.size, 32, none⟩ = some (.int .i64 (q : Int)) := fun y => LD.out y.w (Keep.of_below (HBV.out.trans (y.h.mono HBV.out.size)))
      by_cases hqb : q ≤ h
      · have hp : decide (q ≤ comK e.k k) = true := decide_eq_true (by rw [← HHC.out]; exact hqb)
        have e1 : decide (q ≤ h) = true := decide_eq_true hqb
        have e2 : decide ((q : Int) ≤ (h : Int)) = true := decide_eq_true (by omega)
        have HF : Hid (underE (O.take (m + 1)) k q = underE (O.take m) k q ++ [e]) := filter_yes HE.out hp
        have bs := bsE_one e HKL.out
        clear hqb hp
        refine wp_region_later (by kernel_rfl) (by kernel_rfl) ?_
        repeat (go_big_quiet_step ((go_at_call 22; exact Later.call (HC.out _))))
        refine wpQuiet_nil ?_
        rintro _ ⟨y, rfl⟩
        have HB5 := Lib.hid (HBV.out.trans (y.h.mono HBV.out.size))
        have HO5 := Lib.hid (HOV.out.below y.h)
        have le5 := range_ent (range_below HRV.out y.h) HKL.out
        clear l1 l2 l3 HC
        go_wp2_with (at_builtin; refine wpList_pushE rfl _ _ rfl w3.heap.size _ (underE (O.take m) k q) rfl (OwnE.below HO5.out ((Below.refl _ _).alloc (Nat.le_refl _) _)) y.w.heap.size e HKL.out rfl (ent_made y.w e _) (by rw [← HN.out]; have := HLN.out; have := HLE.out; omega) (by have := HB5.out.size; simp; omega) ?_; intro v4 w4 hO4 hB4; have HO4 := Lib.hid hO4; have HB4 := Lib.hid ((HB5.out.alloc HB5.out.size _).trans hB4); clear hO4 hB4)
        go_roundg (O.length - (m + 1))
        case measure => omega
        case rel => exact ⟨m + 1, by go_num, by omega, rfl, by rw [HF.out]; exact HO4.out, HB4.out⟩
      · have hp : decide (q ≤ comK e.k k) = false := decide_eq_false (by rw [← HHC.out]; exact hqb)
        have e1 : decide (q ≤ h) = false := decide_eq_false hqb
        have e2 : decide ((q : Int) ≤ (h : Int)) = false := decide_eq_false (by omega)
        have HF : Hid (underE (O.take (m + 1)) k q = underE (O.take m) k q) := filter_no HE.out hp
        clear hqb hp
        refine wp_region_later (by kernel_rfl) (by kernel_rfl) ?_
        repeat (go_big_quiet_step ((go_at_call 22; exact Later.call (HC.out _))))
        refine wpQuiet_nil ?_
        rintro _ ⟨y, rfl⟩
        have HB5 := Lib.hid (HBV.out.trans (y.h.mono HBV.out.size))
        have HO5 := Lib.hid (HOV.out.below y.h)
        clear l1 l2 l3 HC
        go_wp2_with fail
        go_roundg (O.length - (m + 1))
        case measure => omega
        case rel => exact ⟨m + 1, by go_num, by omega, rfl, by rw [HF.out, HN.out] at *; exact HO5.out, HB5.out⟩
    · obtain rfl : m = O.length := by omega
      have hd : decide (O.length < O.length) = false := decide_eq_false (by omega)
      have HOf : Hid (OwnE wr w3.heap.size (.slice A3 N c3) (underE O k q)) := by
        have := HO.out
        rw [List.take_length] at this
        exact this
      have HNf : Hid (N = (underE O k q).length) := by
        have := HN.out
        rw [List.take_length] at this
        exact this
      clear HN HO
      obtain ⟨V, hV⟩ : ∃ V, V = underE O k q := ⟨_, rfl⟩
      have HVV : Hid (V.length ≤ 12 ∧ ∀ e ∈ V, e.v.length ≤ 1000) := by
        rw [hV]
        exact ⟨Nat.le_trans (underE_len _ _ _) HLE.out, fun e he => HVE.out e (underE_mem he)⟩
      have HVU : Hid (V.map En.ent = underK (O.map En.ent) k q) := by show _ = _; rw [hV]; exact underE_ent O k q
      have hmV : ∀ e ∈ V, e ∈ O := fun e he => underE_mem (by rw [← hV]; exact he)
      rw [← hV] at HOf HNf
      have HQw := Lib.hid (HQ3.out.below nd HB.out)
      obtain ⟨Av, cv, hAv, hcv, hEv⟩ := HOf.out.ea (fun e he => HQw.out.fs.ea.mem e (hmV e he))
      rw [HNf.out] at hAv ⊢
      injection hAv with hA1 _ hA3
      subst hA1 hA3
      have HEV := Lib.hid hEv
      have LKw : Hid (∀ v, Keep (fun i => i = b) wr v → ldA 24 v (.pointer (some ⟨W.heap.size, 0, none⟩)) = .ok (.value (.agg (bA k))) v) := fun v hv => LK.out v ((Keep.of_below HB.out).trans hv)
      have LDr : Hid (∀ v, Keep (fun i => i = b) wr v → v.cell? ⟨W.heap.size, 32, none⟩ = some (.int .i64 (q : Int))) := fun v hv => LD.out v ((Keep.of_below HB.out).trans hv)
      obtain ⟨mw, hmw, hhw⟩ := HQw.out.hs
      have HHW := Lib.hid hhw
      have HMW : Hid (mw ≤ 0) := hmw
      clear hV hmV hEv hcv hmw hhw HOf HNf HB hqL oL
      go_wp2_with fail
      refine region_heldT 16 (fun v => Keep (fun i => i = b) wr v) (by kernel_rfl) ?_
      have hHeld : Keep (fun i => i = b) wr wr.drew := (Keep.refl _ _).drew
      refine HeldT.take (i := 0) (oi := { dst := some 59, op := .move (.tmp 10), type := _, pos := _, after := _, guard := _ }) (v := ?_) rfl (by kernel_rfl) (by kernel_rfl) (by kernel_rfl) (by kernel_rfl) (fun _ _ _ h => h) (Or.inl ⟨by rfl, ?_⟩) (by assumption) ?_
      rotate_left 1
      · intro v hSv
        clear hSv
        go_simp
        try with_reducible rfl
      try simp only [Act.put, List.setIfInBounds_toArray, List.set_cons_zero, List.set_cons_succ]
      refine HeldT.take (i := 1) (oi := { dst := some 60, op := .move (.tmp 8), type := _, pos := _, after := _, guard := _ }) (v := ?_) rfl (by kernel_rfl) (by kernel_rfl) (by kernel_rfl) (by kernel_rfl) (fun _ _ _ h => h) (Or.inl ⟨by rfl, ?_⟩) (by assumption) ?_
      rotate_left 1
      · intro v hSv
        clear hSv
        go_simp
        try with_reducible rfl
      try simp only [Act.put, List.setIfInBounds_toArray, List.set_cons_zero, List.set_cons_succ]
      refine HeldT.take (i := 2) (oi := { dst := some 61, op := .fieldAddr _ (.tmp 5) 0, type := _, pos := _, after := _, guard := _ }) (v := ?_) rfl (by kernel_rfl) (by kernel_rfl) (by kernel_rfl) (by kernel_rfl) (fun _ _ _ h => h) (Or.inl ⟨by rfl, ?_⟩) (by assumption) ?_
      rotate_left 1
      · intro v hSv
        clear hSv
        go_simp
        try with_reducible rfl
      try simp only [Act.put, List.setIfInBounds_toArray, List.set_cons_zero, List.set_cons_succ]
      refine HeldT.take (i := 3) (oi := { dst := some 62, op := .load _ (.tmp 61), type := _, pos := _, after := _, guard := _ }) (v := ?_) rfl (by kernel_rfl) (by kernel_rfl) (by kernel_rfl) (by kernel_rfl) (fun _ _ _ h => h) (Or.inl ⟨by rfl, ?_⟩) (by assumption) ?_
      rotate_left 1
      · intro v hSv
        have hv1 := LKw.out v hSv
        clear hSv
        go_simp
        try with_reducible rfl
      try simp only [Act.put, List.setIfInBounds_toArray, List.set_cons_zero, List.set_cons_succ]
      refine HeldT.take (i := 4) (oi := { dst := some 63, op := .fieldAddr _ (.tmp 5) 1, type := _, pos := _, after := _, guard := _ }) (v := ?_) rfl (by kernel_rfl) (by kernel_rfl) (by kernel_rfl) (by kernel_rfl) (fun _ _ _ h => h) (Or.inl ⟨by rfl, ?_⟩) (by assumption) ?_
      rotate_left 1
      · intro v hSv
        clear hSv
        go_simp
        try with_reducible rfl
      try simp only [Act.put, List.setIfInBounds_toArray, List.set_cons_zero, List.set_cons_succ]
      refine HeldT.take (i := 5) (oi := { dst := some 64, op := .load _ (.tmp 63), type := _, pos := _, after := _, guard := _ }) (v := ?_) rfl (by kernel_rfl) (by kernel_rfl) (by kernel_rfl) (by kernel_rfl) (fun _ _ _ h => h) (Or.inl ⟨by rfl, ?_⟩) (by assumption) ?_
      rotate_left 1
      · intro v hSv
        have hv1 := LDr.out v hSv
        clear hSv
        go_simp
        try with_reducible rfl
      try simp only [Act.put, List.setIfInBounds_toArray, List.set_cons_zero, List.set_cons_succ]
      refine HeldT.take (i := 7) (oi := { dst := some 66, op := .fieldAddr _ (.tmp 5) 0, type := _, pos := _, after := _, guard := _ }) (v := ?_) rfl (by kernel_rfl) (by kernel_rfl) (by kernel_rfl) (by kernel_rfl) (fun _ _ _ h => h) (Or.inl ⟨by rfl, ?_⟩) (by assumption) ?_
      rotate_left 1
      · intro v hSv
        clear hSv
        go_simp
        try with_reducible rfl
      try simp only [Act.put, List.setIfInBounds_toArray, List.set_cons_zero, List.set_cons_succ]
      refine HeldT.take (i := 8) (oi := { dst := some 67, op := .load _ (.tmp 66), type := _, pos := _, after := _, guard := _ }) (v := ?_) rfl (by kernel_rfl) (by kernel_rfl) (by kernel_rfl) (by kernel_rfl) (fun _ _ _ h => h) (Or.inl ⟨by rfl, ?_⟩) (by assumption) ?_
      rotate_left 1
      · intro v hSv
        have hv1 := LKw.out v hSv
        clear hSv
        go_simp
        try with_reducible rfl
      try simp only [Act.put, List.setIfInBounds_toArray, List.set_cons_zero, List.set_cons_succ]
      refine HeldT.take (i := 9) (oi := { dst := some 68, op := .fieldAddr _ (.tmp 5) 1, type := _, pos := _, after := _, guard := _ }) (v := ?_) rfl (by kernel_rfl) (by kernel_rfl) (by kernel_rfl) (by kernel_rfl) (fun _ _ _ h => h) (Or.inl ⟨by rfl, ?_⟩) (by assumption) ?_
      rotate_left 1
      · intro v hSv
        clear hSv
        go_simp
        try with_reducible rfl
      try simp only [Act.put, List.setIfInBounds_toArray, List.set_cons_zero, List.set_cons_succ]
      refine HeldT.take (i := 10) (oi := { dst := some 69, op := .load _ (.tmp 68), type := _, pos := _, after := _, guard := _ }) (v := ?_) rfl (by kernel_rfl) (by kernel_rfl) (by kernel_rfl) (by kernel_rfl) (fun _ _ _ h => h) (Or.inl ⟨by rfl, ?_⟩) (by assumption) ?_
      rotate_left 1
      · intro v hSv
        have hv1 := LDr.out v hSv
        clear hSv
        go_simp
        try with_reducible rfl
      try simp only [Act.put, List.setIfInBounds_toArray, List.set_cons_zero, List.set_cons_succ]
      refine HeldT.one (i := 6) (o := { dst := some 65, op := .call _, type := _, pos := _, after := _, guard := _ }) (by kernel_rfl) rfl rfl (fun K hK => ?_)
      have HC := Lib.hid (fv.under wr.drew n _ T k (q : Int) (nd.below HQw.out.fs.ms ((Below.refl _ _).drew)) HI.out HK.out)
      rw [show limB (q : Int) = q by have := HQL.out; unfold limB; omega, HPT.out] at HC
      obtain ⟨pU, hpU⟩ := val_ptr nd (ms_under nd k q HQw.out.fs.ms)
      rw [hpU] at HC
      have HPU := Lib.hid hpU
      clear hpU
      go_wp2_with fail
      refine HC.out.mono ?_
      rintro _ r1 ⟨rfl, hB⟩
      have hk1 : Keep (fun i => i = b) wr r1 := (Keep.refl _ wr).drew.trans (Keep.of_below hB)
      have HBY1 : Hid (Below wr.heap.size wr r1) := (Below.refl _ wr).drew.trans hB
      clear hB HC
      go_wp2_with fail
      refine hK.out _ _ (fun _ => hk1) (fun hS => ?_)
      have hHeld := hS (by decide)
      clear hS hK K
      try simp only [Act.put, List.setIfInBounds_toArray, List.set_cons_zero, List.set_cons_succ]
      clear hk1
      refine HeldT.one (i := 11) (o := { dst := some 70, op := .call _, type := _, pos := _, after := _, guard := _ }) (by kernel_rfl) rfl rfl (fun K hK => ?_)
      have HUS := Lib.hid (under_sub HI.out (k := k) HQL.out)
      have HAP : Hid (AptK q (underK (O.map En.ent) k q) k) := ⟨HK.out, (under_apt (l := O.map En.ent) (e := ⟨k, []⟩) HK.out HQL.out).2⟩
      have HC := Lib.hid (rm.atd r1 b n mw q (underK (O.map En.ent) k q) (T.under k q) k (HHW.out.keep (Keep.of_below (L := fun _ => False) HBY1.out) fun h => h) (by have := HMW.out; omega) (HQw.out.fs.vars.below HBY1.out) (nd.below (ms_under nd k q HQw.out.fs.ms) HBY1.out) HUS.out HQL.out HAP.out (by rw [← HVU.out, List.length_map]; have := HVV.out.1; omega))
      obtain ⟨hs, hhs⟩ : ∃ hs, hs = hasK (underK (O.map En.ent) k q) k := ⟨_, rfl⟩
      rw [HPU.out, ← hhs] at HC
      have HHS := Lib.hid hhs
      unfold ptr at HC
      clear hhs
      go_wp2_with fail
      refine HC.out.mono ?_
      rintro _ r2 ⟨T', rfl, hI', hm, _⟩
      obtain ⟨pN, hpN⟩ := val_ptr nd hm.ms
      rw [hpN]
      have HPN := Lib.hid hpN
      have HI' := Lib.hid hI'
      have hk2 : Keep (fun i => i = b) wr r2 := (Keep.of_below HBY1.out).trans hm.keep
      have HM5 := Lib.hid hm.ms
      obtain ⟨m5, hm5, hh5⟩ := hm.hs
      have HM5L : Hid (m5 ≤ 1000) := by show _ ≤ _; have := HMW.out; omega
      have HK2 := Lib.hid hk2
      have HQ5 : Hid (Tf M X n A2 O T b 1000 r2) := HQw.out.made nd hk2 ⟨m5, HM5L.out, hh5⟩
      clear hI' hm hpN hm5 hh5 HC
      go_wp2_with fail
      refine hK.out _ _ (fun _ => hk2) (fun hS => ?_)
      have hHeld := hS (by decide)
      clear hS hK K
      try simp only [Act.put, List.setIfInBounds_toArray, List.set_cons_zero, List.set_cons_succ]
      refine HeldT.take (i := 12) (oi := { dst := some 58, op := .move (.tmp 70), type := _, pos := _, after := _, guard := _ }) (v := ?_) rfl (by kernel_rfl) (by kernel_rfl) (by kernel_rfl) (by kernel_rfl) (fun _ _ _ h => h) (Or.inl ⟨by rfl, ?_⟩) (by assumption) ?_
      rotate_left 1
      · intro v hSv
        clear hSv
        go_simp
        try with_reducible rfl
      try simp only [Act.put, List.setIfInBounds_toArray, List.set_cons_zero, List.set_cons_succ]
      refine HeldT.take (i := 13) (oi := { dst := some 71, op := .extract (.tmp 58) 0, type := _, pos := _, after := _, guard := _ }) (v := ?_) rfl (by kernel_rfl) (by kernel_rfl) (by kernel_rfl) (by kernel_rfl) (fun _ _ _ h => h) (Or.inl ⟨by rfl, ?_⟩) (by assumption) ?_
      rotate_left 1
      · intro v hSv
        clear hSv
        go_simp
        try with_reducible rfl
      try simp only [Act.put, List.setIfInBounds_toArray, List.set_cons_zero, List.set_cons_succ]
      refine HeldT.take (i := 14) (oi := { dst := some 72, op := .extract (.tmp 58) 1, type := _, pos := _, after := _, guard := _ }) (v := ?_) rfl (by kernel_rfl) (by kernel_rfl) (by kernel_rfl) (by kernel_rfl) (fun _ _ _ h => h) (Or.inl ⟨by rfl, ?_⟩) (by assumption) ?_
      rotate_left 1
      · intro v hSv
        clear hSv
        go_simp
        try with_reducible rfl
      try simp only [Act.put, List.setIfInBounds_toArray, List.set_cons_zero, List.set_cons_succ]
      refine HeldT.one (i := 15) (o := { dst := some 14, op := .assign _, type := _, pos := _, after := _, guard := _ }) (by kernel_rfl) rfl rfl (fun K hK => ?_)
      go_wp2_with fail
      refine hK.out _ _ (fun _ => hHeld) (fun hS => ?_)
      have hHeld := hS (by decide)
      clear hS hK K
      try simp only [Act.put, List.setIfInBounds_toArray, List.set_cons_zero, List.set_cons_succ]
      refine HeldT.one (i := 16) (o := { dst := some 15, op := .assign _, type := _, pos := _, after := _, guard := _ }) (by kernel_rfl) rfl rfl (fun K hK => ?_)
      go_wp2_with fail
      refine hK.out _ _ (fun h => absurd rfl h) (fun _ => ?_)
      clear hK K hHeld hk2
      try simp only [Act.put, List.setIfInBounds_toArray, List.set_cons_zero, List.set_cons_succ]
      refine HeldT.done (by kernel_rfl) ?_ _
      have HE5 := Lib.hid (HHW.out.ea HEV.out HK2.out)
      have lk := LKw.out r2 HK2.out
      have HP := Lib.hid (remove7_c A3 c3 V k r2 HE5.out (by have := HVV.out.1; omega) HK.out)
      go_wp2_with fail
      refine HP.out.mono ?_
      rintro _ w8 ⟨v8, rfl, hO8, hB⟩
      have HQ8 := Lib.hid (HQ5.out.below nd hB)
      have HM8 := Lib.hid (nd.below HM5.out hB)
      obtain ⟨A8, c8, rfl, hc8, hE8⟩ := hO8.ea (fun e he => (HE5.out.mem e (rmE_mem he)).below hB)
      have HE8 := Lib.hid hE8
      have HKW8 := Lib.hid (HK2.out.trans (Keep.of_below hB))
      have hlen := rmK_len_eq (HUS.out.sep.ne) k
      obtain ⟨R, hR⟩ : ∃ R, R = rmE V k := ⟨_, rfl⟩
      have HWL : Hid (R.length ≤ 12 ∧ ∀ e ∈ R, e.v.length ≤ 1000) := by
        rw [hR]
        exact ⟨Nat.le_trans (rmE_len V k) HVV.out.1, fun e h => HVV.out.2 e (rmE_mem h)⟩
      have HWE : Hid (R.map En.ent = rmK (underK (O.map En.ent) k q) k) := by show _ = _; rw [hR, rmE_ent, HVU.out]
      have hlen2 : R.length + (if hs then 1 else 0) = V.length := by
        rw [← HHS.out, ← HWE.out, ← HVU.out, List.length_map, List.length_map] at hlen
        exact hlen
      have qlt : Hid (decide ((R.length : Int) < (V.length : Int)) = hs ∧ decide (R.length < V.length) = hs) := by
        cases hs with
        | true => simp at hlen2; exact ⟨decide_eq_true (by omega), decide_eq_true (by omega)⟩
        | false => simp at hlen2; exact ⟨decide_eq_false (by omega), decide_eq_false (by omega)⟩
      have qhh : Hid ((hs == hs) = true) := beq_self_eq_true hs
      have qll : Hid (((R.length : Int) == (R.length : Int)) = true) := beq_self_eq_true _
      have HWB2 : Hid (lenT T'.tr = R.length ∧ digT n T'.tr = rootK (257 - q) n (R.map En.ent) (q : Int)) := by
        have h := grow_both n (257 - q) _ (q : Int) HI'.out.sep (.inr ⟨by omega, by have := HQL.out; omega, by have := HQL.out; omega⟩)
        rw [← HI'.out.tr, ← HWE.out, List.length_map] at h
        exact h
      rw [← hR] at HE8 ⊢
      have LDw : Hid (∀ v, Keep (fun i => i = b) w8 v → v.cell? ⟨W.heap.size, 32, none⟩ = some (.int .i64 (q : Int))) := fun v hv => LDr.out v (HKW8.out.trans hv)
      obtain ⟨m8, hm8, hh8⟩ := HQ8.out.hs
      have HS0w : Hid (Hs w8.drew b n m8) := hh8
      have HH8 := Lib.hid hh8
      have HM8L : Hid (m8 ≤ 1000) := hm8
      obtain ⟨g, hg⟩ : ∃ g, g = digT n T'.tr := ⟨_, rfl⟩
      have hgl : g.length = 32 := by rw [hg]; exact digT_len _ _
      have HAL : Hid (∀ v, Keep (fun i => i = b) w8 v → Calls Tryd.prog 10 #[] v (Aye v)) := fun v hv => alive10_c nd pv rm v (HQ8.out.fs.vars.hs HH8.out hv)
      have HLN : Hid (∀ v, Keep (fun i => i = b) w8 v → Calls Tryd.prog 19 #[.pointer pN] v fun e w' => e = .returned (.int .i64 (R.length : Int)) ∧ Below v.heap.size v w') := fun v hv => by
        have := nd.len v n T' (nd.hs HM8.out HH8.out hv) (by rw [HWB2.out.1]; have := HWL.out.1; omega)
        rw [HPN.out, HWB2.out.1] at this
        exact this
      have HDG : Hid (∀ v, Keep (fun i => i = b) w8 v → Hs v b n m8 → Calls Tryd.prog 18 #[.pointer (some ⟨b, 0, none⟩), .pointer pN] v fun e w' => e = .returned (.agg (bA g)) ∧ Keep (fun i => i = b) v w') := fun v hv hh => by
        have := nd.digest v b n m8 T' hh (by have := HM8L.out; omega) (HQ8.out.fs.vars.hs HH8.out hv) (nd.hs HM8.out HH8.out hv)
        rw [HPN.out, ← hg] at this
        exact this.mono fun e w' ⟨_, h1, _, _, _, h2⟩ => ⟨h1, h2⟩
      have HRT : Hid (∀ v, Keep (fun i => i = b) w8 v → Calls Tryd.prog 25 #[.int .i64 n, .slice A8 R.length c8, .int .i64 (q : Int)] v fun e w' => e = .returned (.agg (bA g)) ∧ Below v.heap.size v w') := fun v hv => by
        have := root7_c n (257 - q) A8 c8 R (q : Int) v (HH8.out.ea HE8.out hv) (by have := HWL.out.1; omega) HWL.out.2 (.inr ⟨by omega, by have := HQL.out; omega, by have := HQL.out; omega⟩)
        rw [← HWB2.out.2, ← hg] at this
        exact this
      have qg : ∀ x y w, eqA .eql 44 x y w (.agg (bA g)) (.agg (bA g)) = .ok (.value (.bool true)) w := fun x y w => by rw [eqDig g g hgl hgl, decide_eq_true rfl]
      have HBW8 := Lib.hid HQ8.out.fs.bel
      have HNEW := Lib.hid HQ8.out.new
      clear hO8 hc8 hE8 hB HP HQ5 HM5 lk hR HE5 hlen hlen2 hm8 hh8 hg LKw LDr LK LD HGB HQw HHW HK2 HEV HBY1
      go_wp2_with fail
      refine wp_region_held_drew (S := fun w' => Keep (fun i => i = b) w8 w') (by kernel_rfl) ((Keep.refl _ _).drew) (fun hHeld => ?_)
      have hb0 : Keep (fun i => i = b) w8 w8.drew := (Keep.refl _ _).drew
      refine wpAnyH_ready (rs := [0]) (by kernel_rfl) (by simp) ?_
      refine AllReadyH.cons (o := { dst := some 77, op := .call _, type := _, pos := _, after := _, guard := _ }) rfl (fun K hK => ?_) AllReadyH.nil
      go_simp
      refine (HAL.out w8.drew (hb0)).mono ?_
      rintro e y1 ⟨rfl, hb⟩
      have hb1 : Keep (fun i => i = b) w8 y1 := (hb0).trans (Keep.of_below hb)
      have HS1 := Lib.hid (HS0w.out.keep (Keep.of_below (L := fun _ => False) hb) fun h => h)
      clear hb
      go_wp2_with fail
      refine hK.out _ _ (hb1) (fun hHeld => ?_)
      clear hK K
      try simp only [Act.put, List.setIfInBounds_toArray, List.set_cons_zero, List.set_cons_succ]
      refine wpAnyH_take (i := 1) (oi := { dst := some 78, op := .move (.tmp 77), type := _, pos := _, after := _, guard := _ }) (v := ?_) rfl (by kernel_rfl) (by kernel_rfl) (by kernel_rfl) (fun _ _ _ h => h) (Or.inl ⟨by rfl, ?_⟩) (by assumption) ?_
      rotate_left 1
      · intro v hSv
        clear hSv
        go_simp
        try with_reducible rfl
      try simp only [Act.put, List.setIfInBounds_toArray, List.set_cons_zero, List.set_cons_succ]
      refine wpAnyH_take (i := 2) (oi := { dst := some 79, op := .move (.tmp 15), type := _, pos := _, after := _, guard := _ }) (v := ?_) rfl (by kernel_rfl) (by kernel_rfl) (by kernel_rfl) (fun _ _ _ h => h) (Or.inl ⟨by rfl, ?_⟩) (by assumption) ?_
      rotate_left 1
      · intro v hSv
        clear hSv
        go_simp
        try with_reducible rfl
      try simp only [Act.put, List.setIfInBounds_toArray, List.set_cons_zero, List.set_cons_succ]
      refine wpAnyH_take (i := 3) (oi := { dst := some 80, op := .move (.tmp 16), type := _, pos := _, after := _, guard := _ }) (v := ?_) rfl (by kernel_rfl) (by kernel_rfl) (by kernel_rfl) (fun _ _ _ h => h) (Or.inl ⟨by rfl, ?_⟩) (by assumption) ?_
      rotate_left 1
      · intro v hSv
        clear hSv
        go_simp
        try with_reducible rfl
      try simp only [Act.put, List.setIfInBounds_toArray, List.set_cons_zero, List.set_cons_succ]
      refine wpAnyH_take (i := 4) (oi := { dst := some 81, op := .call _, type := _, pos := _, after := _, guard := _ }) (v := ?_) rfl (by kernel_rfl) (by kernel_rfl) (by kernel_rfl) (fun _ _ _ h => h) (Or.inl ⟨by rfl, ?_⟩) (by assumption) ?_
      rotate_left 1
      · intro v hSv
        clear hSv
        go_simp
        try with_reducible rfl
      try simp only [Act.put, List.setIfInBounds_toArray, List.set_cons_zero, List.set_cons_succ]
      refine wpAnyH_take (i := 5) (oi := { dst := some 82, op := .move (.tmp 11), type := _, pos := _, after := _, guard := _ }) (v := ?_) rfl (by kernel_rfl) (by kernel_rfl) (by kernel_rfl) (fun _ _ _ h => h) (Or.inl ⟨by rfl, ?_⟩) (by assumption) ?_
      rotate_left 1
      · intro v hSv
        clear hSv
        go_simp
        try with_reducible rfl
      try simp only [Act.put, List.setIfInBounds_toArray, List.set_cons_zero, List.set_cons_succ]
      refine wpAnyH_take (i := 6) (oi := { dst := some 83, op := .call _, type := _, pos := _, after := _, guard := _ }) (v := ?_) rfl (by kernel_rfl) (by kernel_rfl) (by kernel_rfl) (fun _ _ _ h => h) (Or.inl ⟨by rfl, ?_⟩) (by assumption) ?_
      rotate_left 1
      · intro v hSv
        clear hSv
        go_simp
        try with_reducible rfl
      try simp only [Act.put, List.setIfInBounds_toArray, List.set_cons_zero, List.set_cons_succ]
      refine wpAnyH_take (i := 7) (oi := { dst := some 84, op := .binOp .lss _ (.tmp 81) (.tmp 83) _, type := _, pos := _, after := _, guard := _ }) (v := ?_) rfl (by kernel_rfl) (by kernel_rfl) (by kernel_rfl) (fun _ _ _ h => h) (Or.inl ⟨by rfl, ?_⟩) (by assumption) ?_
      rotate_left 1
      · intro v hSv
        have hv1 := qlt.out
        clear hSv
        go_simp
        try with_reducible rfl
      try simp only [Act.put, List.setIfInBounds_toArray, List.set_cons_zero, List.set_cons_succ]
      refine wpAnyH_take (i := 8) (oi := { dst := some 85, op := .binOp .eql _ (.tmp 79) (.tmp 84) _, type := _, pos := _, after := _, guard := _ }) (v := ?_) rfl (by kernel_rfl) (by kernel_rfl) (by kernel_rfl) (fun _ _ _ h => h) (Or.inl ⟨by rfl, ?_⟩) (by assumption) ?_
      rotate_left 1
      · intro v hSv
        have hv1 := qhh.out
        clear hSv
        go_simp
        try with_reducible rfl
      try simp only [Act.put, List.setIfInBounds_toArray, List.set_cons_zero, List.set_cons_succ]
      refine wpAnyH_take (i := 9) (oi := { dst := some 86, op := .pick (.tmp 78) (.tmp 85) (.const (.bool false)), type := _, pos := _, after := _, guard := _ }) (v := ?_) rfl (by kernel_rfl) (by kernel_rfl) (by kernel_rfl) (fun _ _ _ h => h) (Or.inl ⟨by rfl, ?_⟩) (by assumption) ?_
      rotate_left 1
      · intro v hSv
        clear hSv
        go_simp
        try with_reducible rfl
      try simp only [Act.put, List.setIfInBounds_toArray, List.set_cons_zero, List.set_cons_succ]
      refine wpAnyH_take (i := 10) (oi := { dst := some 87, op := .move (.tmp 86), type := _, pos := _, after := _, guard := _ }) (v := ?_) rfl (by kernel_rfl) (by kernel_rfl) (by kernel_rfl) (fun _ _ _ h => h) (Or.inl ⟨by rfl, ?_⟩) (by assumption) ?_
      rotate_left 1
      · intro v hSv
        clear hSv
        go_simp
        try with_reducible rfl
      try simp only [Act.put, List.setIfInBounds_toArray, List.set_cons_zero, List.set_cons_succ]
      refine wpAnyH_take (i := 11) (oi := { dst := some 88, op := .move (.tmp 14), type := _, pos := _, after := _, guard := _ }) (v := ?_) rfl (by kernel_rfl) (by kernel_rfl) (by kernel_rfl) (fun _ _ _ h => h) (Or.inl ⟨by rfl, ?_⟩) (by assumption) ?_
      rotate_left 1
      · intro v hSv
        clear hSv
        go_simp
        try with_reducible rfl
      try simp only [Act.put, List.setIfInBounds_toArray, List.set_cons_zero, List.set_cons_succ]
      refine wpAnyH_take (i := 13) (oi := { dst := some 90, op := .move (.tmp 16), type := _, pos := _, after := _, guard := _ }) (v := ?_) rfl (by kernel_rfl) (by kernel_rfl) (by kernel_rfl) (fun _ _ _ h => h) (Or.inl ⟨by rfl, ?_⟩) (by assumption) ?_
      rotate_left 1
      · intro v hSv
        clear hSv
        go_simp
        try with_reducible rfl
      try simp only [Act.put, List.setIfInBounds_toArray, List.set_cons_zero, List.set_cons_succ]
      refine wpAnyH_take (i := 14) (oi := { dst := some 91, op := .call _, type := _, pos := _, after := _, guard := _ }) (v := ?_) rfl (by kernel_rfl) (by kernel_rfl) (by kernel_rfl) (fun _ _ _ h => h) (Or.inl ⟨by rfl, ?_⟩) (by assumption) ?_
      rotate_left 1
      · intro v hSv
        clear hSv
        go_simp
        try with_reducible rfl
      try simp only [Act.put, List.setIfInBounds_toArray, List.set_cons_zero, List.set_cons_succ]
      refine wpAnyH_ready (rs := [12]) (by kernel_rfl) (by simp) ?_
      refine AllReadyH.cons (o := { dst := some 89, op := .call _, type := _, pos := _, after := _, guard := _ }) rfl (fun K hK => ?_) AllReadyH.nil
      go_simp
      refine (HLN.out y1 (hb1)).mono ?_
      rintro e y2 ⟨rfl, hb⟩
      have hb2 : Keep (fun i => i = b) w8 y2 := (hb1).trans (Keep.of_below hb)
      have HS2 := Lib.hid (HS1.out.keep (Keep.of_below (L := fun _ => False) hb) fun h => h)
      clear hb
      go_wp2_with fail
      refine hK.out _ _ (hb2) (fun hHeld => ?_)
      clear hK K
      try simp only [Act.put, List.setIfInBounds_toArray, List.set_cons_zero, List.set_cons_succ]
      refine wpAnyH_take (i := 15) (oi := { dst := some 92, op := .binOp .eql _ (.tmp 89) (.tmp 91) _, type := _, pos := _, after := _, guard := _ }) (v := ?_) rfl (by kernel_rfl) (by kernel_rfl) (by kernel_rfl) (fun _ _ _ h => h) (Or.inl ⟨by rfl, ?_⟩) (by assumption) ?_
      rotate_left 1
      · intro v hSv
        have hv1 := qll.out
        clear hSv
        go_simp
        try with_reducible rfl
      try simp only [Act.put, List.setIfInBounds_toArray, List.set_cons_zero, List.set_cons_succ]
      refine wpAnyH_take (i := 16) (oi := { dst := some 93, op := .pick (.tmp 87) (.tmp 92) (.const (.bool false)), type := _, pos := _, after := _, guard := _ }) (v := ?_) rfl (by kernel_rfl) (by kernel_rfl) (by kernel_rfl) (fun _ _ _ h => h) (Or.inl ⟨by rfl, ?_⟩) (by assumption) ?_
      rotate_left 1
      · intro v hSv
        clear hSv
        go_simp
        try with_reducible rfl
      try simp only [Act.put, List.setIfInBounds_toArray, List.set_cons_zero, List.set_cons_succ]
      refine wpAnyH_take (i := 17) (oi := { dst := some 94, op := .move (.tmp 93), type := _, pos := _, after := _, guard := _ }) (v := ?_) rfl (by kernel_rfl) (by kernel_rfl) (by kernel_rfl) (fun _ _ _ h => h) (Or.inl ⟨by rfl, ?_⟩) (by assumption) ?_
      rotate_left 1
      · intro v hSv
        clear hSv
        go_simp
        try with_reducible rfl
      try simp only [Act.put, List.setIfInBounds_toArray, List.set_cons_zero, List.set_cons_succ]
      refine wpAnyH_take (i := 18) (oi := { dst := some 95, op := .move (.tmp 10), type := _, pos := _, after := _, guard := _ }) (v := ?_) rfl (by kernel_rfl) (by kernel_rfl) (by kernel_rfl) (fun _ _ _ h => h) (Or.inl ⟨by rfl, ?_⟩) (by assumption) ?_
      rotate_left 1
      · intro v hSv
        clear hSv
        go_simp
        try with_reducible rfl
      try simp only [Act.put, List.setIfInBounds_toArray, List.set_cons_zero, List.set_cons_succ]
      refine wpAnyH_take (i := 19) (oi := { dst := some 96, op := .move (.tmp 14), type := _, pos := _, after := _, guard := _ }) (v := ?_) rfl (by kernel_rfl) (by kernel_rfl) (by kernel_rfl) (fun _ _ _ h => h) (Or.inl ⟨by rfl, ?_⟩) (by assumption) ?_
      rotate_left 1
      · intro v hSv
        clear hSv
        go_simp
        try with_reducible rfl
      try simp only [Act.put, List.setIfInBounds_toArray, List.set_cons_zero, List.set_cons_succ]
      refine wpAnyH_take (i := 21) (oi := { dst := some 98, op := .move (.tmp 0), type := _, pos := _, after := _, guard := _ }) (v := ?_) rfl (by kernel_rfl) (by kernel_rfl) (by kernel_rfl) (fun _ _ _ h => h) (Or.inl ⟨by rfl, ?_⟩) (by assumption) ?_
      rotate_left 1
      · intro v hSv
        clear hSv
        go_simp
        try with_reducible rfl
      try simp only [Act.put, List.setIfInBounds_toArray, List.set_cons_zero, List.set_cons_succ]
      refine wpAnyH_take (i := 22) (oi := { dst := some 99, op := .move (.tmp 16), type := _, pos := _, after := _, guard := _ }) (v := ?_) rfl (by kernel_rfl) (by kernel_rfl) (by kernel_rfl) (fun _ _ _ h => h) (Or.inl ⟨by rfl, ?_⟩) (by assumption) ?_
      rotate_left 1
      · intro v hSv
        clear hSv
        go_simp
        try with_reducible rfl
      try simp only [Act.put, List.setIfInBounds_toArray, List.set_cons_zero, List.set_cons_succ]
      refine wpAnyH_take (i := 23) (oi := { dst := some 100, op := .fieldAddr _ (.tmp 5) 1, type := _, pos := _, after := _, guard := _ }) (v := ?_) rfl (by kernel_rfl) (by kernel_rfl) (by kernel_rfl) (fun _ _ _ h => h) (Or.inl ⟨by rfl, ?_⟩) (by assumption) ?_
      rotate_left 1
      · intro v hSv
        clear hSv
        go_simp
        try with_reducible rfl
      try simp only [Act.put, List.setIfInBounds_toArray, List.set_cons_zero, List.set_cons_succ]
      refine wpAnyH_take (i := 24) (oi := { dst := some 101, op := .load _ (.tmp 100), type := _, pos := _, after := _, guard := _ }) (v := ?_) rfl (by kernel_rfl) (by kernel_rfl) (by kernel_rfl) (fun _ _ _ h => h) (Or.inl ⟨by rfl, ?_⟩) (by assumption) ?_
      rotate_left 1
      · intro v hSv
        have hv1 := LDw.out v hSv
        clear hSv
        go_simp
        try with_reducible rfl
      try simp only [Act.put, List.setIfInBounds_toArray, List.set_cons_zero, List.set_cons_succ]
      refine wpAnyH_ready (rs := [20]) (by kernel_rfl) (by simp) ?_
      refine AllReadyH.cons (o := { dst := some 97, op := .call _, type := _, pos := _, after := _, guard := _ }) rfl (fun K hK => ?_) AllReadyH.nil
      go_simp
      refine (HDG.out y2 (hb2) HS2.out).mono ?_
      rintro e y3 ⟨rfl, hb⟩
      have hb3 : Keep (fun i => i = b) w8 y3 := (hb2).trans hb
      clear hb
      go_wp2_with fail
      refine hK.out _ _ (hb3) (fun hHeld => ?_)
      clear hK K
      try simp only [Act.put, List.setIfInBounds_toArray, List.set_cons_zero, List.set_cons_succ]
      refine wpAnyH_ready (rs := [25]) (by kernel_rfl) (by simp) ?_
      refine AllReadyH.cons (o := { dst := some 102, op := .call _, type := _, pos := _, after := _, guard := _ }) rfl (fun K hK => ?_) AllReadyH.nil
      go_simp
      refine (HRT.out y3 (hb3)).mono ?_
      rintro e y4 ⟨rfl, hb⟩
      have hb4 : Keep (fun i => i = b) w8 y4 := (hb3).trans (Keep.of_below hb)
      clear hb
      go_wp2_with fail
      refine hK.out _ _ (hb4) (fun hHeld => ?_)
      clear hK K
      try simp only [Act.put, List.setIfInBounds_toArray, List.set_cons_zero, List.set_cons_succ]
      refine wpAnyH_take (i := 26) (oi := { dst := some 103, op := .binOp .eql _ (.tmp 97) (.tmp 102) _, type := _, pos := _, after := _, guard := _ }) (v := ?_) rfl (by kernel_rfl) (by kernel_rfl) (by kernel_rfl) (fun _ _ _ h => h) (Or.inl ⟨by rfl, ?_⟩) (by assumption) ?_
      rotate_left 1
      · intro v hSv
        have hv1 := fun x y => qg x y v
        clear hSv
        go_simp
        try with_reducible rfl
      try simp only [Act.put, List.setIfInBounds_toArray, List.set_cons_zero, List.set_cons_succ]
      refine wpAnyH_take (i := 27) (oi := { dst := some 104, op := .pick (.tmp 94) (.tmp 103) (.const (.bool false)), type := _, pos := _, after := _, guard := _ }) (v := ?_) rfl (by kernel_rfl) (by kernel_rfl) (by kernel_rfl) (fun _ _ _ h => h) (Or.inl ⟨by rfl, ?_⟩) (by assumption) ?_
      rotate_left 1
      · intro v hSv
        clear hSv
        go_simp
        try with_reducible rfl
      try simp only [Act.put, List.setIfInBounds_toArray, List.set_cons_zero, List.set_cons_succ]
      refine wpAnyH_take (i := 28) (oi := { dst := some 6, op := .assign (.tmp 104), type := _, pos := _, after := _, guard := _ }) (v := ?_) rfl (by kernel_rfl) (by kernel_rfl) (by kernel_rfl) (fun _ _ _ h => h) (Or.inl ⟨by rfl, ?_⟩) (by assumption) ?_
      rotate_left 1
      · intro v hSv
        clear hSv
        go_simp
        try with_reducible rfl
      try simp only [Act.put, List.setIfInBounds_toArray, List.set_cons_zero, List.set_cons_succ]
      refine wpAnyH_done (by kernel_rfl) ?_ _
      have HKF := Lib.hid (hb4)
      go_wp2_with fail
      go_ret
      exact ⟨rfl, HB0.out.trans ((keep_new HBW8.out HNEW.out HKF.out).mono HB0.out.size)⟩
set_option maxHeartbeats 16000000 in
set_option maxRecDepth 100000 in
theorem rat_low {M : World → Int → Tv → Prop} (nd : NdV M) (pv : PtV M) (rm : RmV M) (n : Int) (A : Option Addr) (c : Nat) (es : List En) (k : List UInt8) (d : Int) (hk : k.length = 32) (W : World) (hA : EA W A es) (hl : es.length ≤ 12) (hvl : ∀ e ∈ es, e.v.length ≤ 1000) (hf : fewK (es.map En.ent) = true) (hvx : Vars W) (h0 : 0 ≤ n) (h1 : n ≤ 256) (hq : d < 0) :
    Calls Tryd.prog 7 #[.int .i64 n, .slice A es.length c, .agg (k.map bv ++ [Value.int .i64 d]).toArray] W (Aye W) := by
  obtain ⟨X, hX⟩ : ∃ X, X = W.alloc (.cells (k.map bv ++ [Value.int .i64 d]).toArray 54) := ⟨_, rfl⟩
  have hb0 : Below W.heap.size W X := by rw [hX]; exact (Below.refl _ _).alloc (Nat.le_refl _) _
  have hg0 : X.heap[W.heap.size]? = some (.cells (k.map bv ++ [Value.int .i64 d]).toArray 54 (0, 0)) := by rw [hX]; exact heap_alloc_new W _
  have hs0 : W.heap.size < X.heap.size := by rw [hX]; simp
  have HG0 := Lib.hid hg0
  have HS0 := Lib.hid hs0
  have HK := Lib.hid hk
  have HQL := Lib.hid hq
  clear hg0 hs0 hq
  have HX := Lib.hid hX
  have HB0 := Lib.hid hb0
  have HT := Lib.hid (tree_in nd n A c es X (hA.below hb0) hl hvl hf (hvx.below hb0) h0 h1)
  have HVE : Hid (∀ e ∈ ofE es, e.v.length ≤ 1000) := fun e he => hvl e (ofE_mem he)
  have HLE : Hid ((ofE es).length ≤ 12) := Nat.le_trans (ofE_len es) hl
  clear hA hvl hf hvx hX hb0
  go_enter Tryd.func7, Tryd.ntmps7
  go_wp2_with fail
  rw [← HX.out]
  clear HX
  refine HT.out.mono ?_
  rintro _ w2 ⟨A2, c2, T, rfl, hc2, hI, hF⟩
  have HI := Lib.hid hI
  have HF2 := Lib.hid hF
  obtain ⟨O, hO⟩ : ∃ O, O = ofE es := ⟨_, rfl⟩
  rw [← hO] at HI HF2 HVE HLE ⊢
  obtain ⟨pT, hpT⟩ := val_ptr nd hF.ms
  have HPT := Lib.hid hpT
  rw [hpT]
  have HH := Lib.hid (hash_in n w2 h0 h1)
  clear hc2 hI hF HT hO hpT
  go_wp2_with fail
  refine HH.out.mono ?_
  rintro _ w3 ⟨b, rfl, hbn, hH, hB⟩
  have HQ3 : Hid (Tf M X n A2 O T b 0 w3) := ⟨HF2.out.below nd hB, ⟨0, Nat.le_refl _, hH⟩, Nat.le_trans HF2.out.bel.size hbn⟩
  clear hH hbn hB HH HF2
  unfold ptr
  have HGB : Hid (∀ v, Keep (fun i => i = b) w3 v → v.heap[W.heap.size]? = some (.cells (k.map bv ++ [Value.int .i64 d]).toArray 54 (0, 0))) := fun v hv => hv.heap (by rw [HQ3.out.fs.bel.block _ (lt_of_heap HG0.out)]; exact HG0.out) (by have := HS0.out; have := HQ3.out.new; show W.heap.size ≠ b; omega)
  have LK : Hid (∀ v, Keep (fun i => i = b) w3 v → ldA 24 v (.pointer (some ⟨W.heap.size, 0, none⟩)) = .ok (.value (.agg (bA k))) v) := fun v hv => kb_key (Below.refl _ _) (HGB.out v hv) HK.out
  have LD : Hid (∀ v, Keep (fun i => i = b) w3 v → v.cell? ⟨W.heap.size, 32, none⟩ = some (.int .i64 d)) := fun v hv => kb_bits (Below.refl _ _) (HGB.out v hv) HK.out
  have lb := LD.out w3 (Keep.refl _ _)
  have q1 : decide (d < 0) = true := decide_eq_true HQL.out
  have HAL := Lib.hid (alive10_c nd pv rm w3 HQ3.out.fs.vars)
  go_wp2_with fail
  refine HAL.out.mono ?_
  rintro _ w4 ⟨rfl, hB⟩
  have HQ4 := Lib.hid (HQ3.out.below nd hB)
  clear hB HAL HQ3
  go_wp2_with fail
  go_ret
  exact ⟨rfl, HB0.out.trans (HQ4.out.fs.bel.mono HB0.out.size)⟩
set_option maxHeartbeats 16000000 in
set_option maxRecDepth 100000 in
theorem rat_deep {M : World → Int → Tv → Prop} (nd : NdV M) (pv : PtV M) (rm : RmV M) (n : Int) (A : Option Addr) (c : Nat) (es : List En) (k : List UInt8) (d : Int) (hk : k.length = 32) (W : World) (hA : EA W A es) (hl : es.length ≤ 12) (hvl : ∀ e ∈ es, e.v.length ≤ 1000) (hf : fewK (es.map En.ent) = true) (hvx : Vars W) (h0 : 0 ≤ n) (h1 : n ≤ 256) (hq : 256 < d) :
    Calls Tryd.prog 7 #[.int .i64 n, .slice A es.length c, .agg (k.map bv ++ [Value.int .i64 d]).toArray] W (Aye W) := by
  obtain ⟨X, hX⟩ : ∃ X, X = W.alloc (.cells (k.map bv ++ [Value.int .i64 d]).toArray 54) := ⟨_, rfl⟩
  have hb0 : Below W.heap.size W X := by rw [hX]; exact (Below.refl _ _).alloc (Nat.le_refl _) _
  have hg0 : X.heap[W.heap.size]? = some (.cells (k.map bv ++ [Value.int .i64 d]).toArray 54 (0, 0)) := by rw [hX]; exact heap_alloc_new W _
  have hs0 : W.heap.size < X.heap.size := by rw [hX]; simp
  have HG0 := Lib.hid hg0
  have HS0 := Lib.hid hs0
  have HK := Lib.hid hk
  have HQL := Lib.hid hq
  clear hg0 hs0 hq
  have HX := Lib.hid hX
  have HB0 := Lib.hid hb0
  have HT := Lib.hid (tree_in nd n A c es X (hA.below hb0) hl hvl hf (hvx.below hb0) h0 h1)
  have HVE : Hid (∀ e ∈ ofE es, e.v.length ≤ 1000) := fun e he => hvl e (ofE_mem he)
  have HLE : Hid ((ofE es).length ≤ 12) := Nat.le_trans (ofE_len es) hl
  clear hA hvl hf hvx hX hb0
  go_enter Tryd.func7, Tryd.ntmps7
  go_wp2_with fail
  rw [← HX.out]
  clear HX
  refine HT.out.mono ?_
  rintro _ w2 ⟨A2, c2, T, rfl, hc2, hI, hF⟩
  have HI := Lib.hid hI
  have HF2 := Lib.hid hF
  obtain ⟨O, hO⟩ : ∃ O, O = ofE es := ⟨_, rfl⟩
  rw [← hO] at HI HF2 HVE HLE ⊢
  obtain ⟨pT, hpT⟩ := val_ptr nd hF.ms
  have HPT := Lib.hid hpT
  rw [hpT]
  have HH := Lib.hid (hash_in n w2 h0 h1)
  clear hc2 hI hF HT hO hpT
  go_wp2_with fail
  refine HH.out.mono ?_
  rintro _ w3 ⟨b, rfl, hbn, hH, hB⟩
  have HQ3 : Hid (Tf M X n A2 O T b 0 w3) := ⟨HF2.out.below nd hB, ⟨0, Nat.le_refl _, hH⟩, Nat.le_trans HF2.out.bel.size hbn⟩
  clear hH hbn hB HH HF2
  unfold ptr
  have HGB : Hid (∀ v, Keep (fun i => i = b) w3 v → v.heap[W.heap.size]? = some (.cells (k.map bv ++ [Value.int .i64 d]).toArray 54 (0, 0))) := fun v hv => hv.heap (by rw [HQ3.out.fs.bel.block _ (lt_of_heap HG0.out)]; exact HG0.out) (by have := HS0.out; have := HQ3.out.new; show W.heap.size ≠ b; omega)
  have LK : Hid (∀ v, Keep (fun i => i = b) w3 v → ldA 24 v (.pointer (some ⟨W.heap.size, 0, none⟩)) = .ok (.value (.agg (bA k))) v) := fun v hv => kb_key (Below.refl _ _) (HGB.out v hv) HK.out
  have LD : Hid (∀ v, Keep (fun i => i = b) w3 v → v.cell? ⟨W.heap.size, 32, none⟩ = some (.int .i64 d)) := fun v hv => kb_bits (Below.refl _ _) (HGB.out v hv) HK.out
  have lb := LD.out w3 (Keep.refl _ _)
  have q1 : decide (d < 0) = false := decide_eq_false (by have := HQL.out; omega)
  have q2 : decide (256 < d) = true := decide_eq_true HQL.out
  have HAL := Lib.hid (alive10_c nd pv rm w3 HQ3.out.fs.vars)
  go_wp2_with fail
  refine HAL.out.mono ?_
  rintro _ w4 ⟨rfl, hB⟩
  have HQ4 := Lib.hid (HQ3.out.below nd hB)
  clear hB HAL HQ3
  go_wp2_with fail
  go_ret
  exact ⟨rfl, HB0.out.trans (HQ4.out.fs.bel.mono HB0.out.size)⟩
set_option maxHeartbeats 16000000 in
set_option maxRecDepth 100000 in
/-- Other bits, or entries that are not few: alive. -/
theorem rat_out {M : World → Int → Tv → Prop} (nd : NdV M) (pv : PtV M) (rm : RmV M) (n : Int) (A : Option Addr) (c : Nat) (es : List En) (k : List UInt8) (d : Int) (W : World) (hA : EA W A es) (hvx : Vars W) (h : (n < 0 ∨ 256 < n) ∨ fewK (es.map En.ent) = false) :
    Calls Tryd.prog 7 #[.int .i64 n, .slice A es.length c, .agg (k.map bv ++ [Value.int .i64 d]).toArray] W (Aye W) := by
  obtain ⟨X, hX⟩ : ∃ X, X = W.alloc (.cells (k.map bv ++ [Value.int .i64 d]).toArray 54) := ⟨_, rfl⟩
  have hb0 : Below W.heap.size W X := by rw [hX]; exact (Below.refl _ _).alloc (Nat.le_refl _) _
  have HX := Lib.hid hX
  have HB0 := Lib.hid hb0
  have HVX := Lib.hid (hvx.below hb0)
  have HT := Lib.hid (tree_out n A c es X (hA.below hb0) h)
  have HAL := Lib.hid (fun w h => alive10_c nd pv rm w h)
  clear hA hvx h hX hb0
  go_enter Tryd.func7, Tryd.ntmps7
  go_wp2_with fail
  rw [← HX.out]
  clear HX
  refine HT.out.mono ?_
  rintro _ w2 ⟨rfl, hB⟩
  have HB := Lib.hid hB
  clear hB HT
  go_wp2_with fail
  refine (hash_any n w2).mono ?_
  rintro _ w3 ⟨p, rfl, hB⟩
  have HB3 := Lib.hid (HB.out.trans (hB.mono HB.out.size))
  clear hB HB
  go_wp2_with fail
  refine (HAL.out w3 (HVX.out.below HB3.out)).mono ?_
  rintro _ w4 ⟨rfl, hB⟩
  have HB4 := Lib.hid (HB3.out.trans (hB.mono HB3.out.size))
  clear hB
  go_wp2_with fail
  go_ret
  exact ⟨rfl, HB0.out.trans (HB4.out.mono HB0.out.size)⟩
end Go.Proofs.YtjhpnlnghaljaaaDoor

/- The laws of layer 10, their cases together. -/
namespace Go.Proofs.YtjhpnlnghaljaaaDoor
open Go.RowKit

theorem rems_w {M : World → Int → Tv → Prop} (nd : NdV M) (fv : FnV M) (pv : PtV M) (rm : RmV M) (n : Int) (A : Option Addr) (c : Nat) (es : List En) (k : List UInt8) (hk : k.length = 32) (W : World) (hA : EA W A es) (hvx : Vars W) : Calls Tryd.prog 3 #[.int .i64 n, .slice A es.length c, .agg (bA k)] W (Aye W) := by
  rcases few_cases n es with h | ⟨h0, h1, hf, hl, hvl⟩
  · exact rems_out nd pv rm n A c es k W hA hvx h
  · exact rems_in nd fv pv rm n A c es k hk W hA hl hvl hf hvx h0 h1
theorem keeps10_w {M : World → Int → Tv → Prop} (nd : NdV M) (pv : PtV M) (rm : RmV M) (n : Int) (A : Option Addr) (c : Nat) (es : List En) (k : List UInt8) (hk : k.length = 32) (W : World) (hA : EA W A es) (hvx : Vars W) : Calls Tryd.prog 4 #[.int .i64 n, .slice A es.length c, .agg (bA k)] W (Aye W) := by
  rcases few_cases n es with h | ⟨h0, h1, hf, hl, hvl⟩
  · exact keeps_out nd pv rm n A c es k W hA hvx h
  · cases hh : hasK ((ofE es).map En.ent) k with
    | true => exact keeps_yes nd pv rm n A c es k hk W hA hl hvl hf hvx h0 h1 hh
    | false => exact keeps_no nd pv rm n A c es k hk W hA hl hvl hf hvx h0 h1 hh
theorem inv_w {M : World → Int → Tv → Prop} (nd : NdV M) (pv : PtV M) (rm : RmV M) (n : Int) (A : Option Addr) (c : Nat) (es : List En) (x : En) (W : World) (hA : EA W A es) (hvx : Vars W) (hx : EnOk W x) : Calls Tryd.prog 5 #[.int .i64 n, .slice A es.length c, .agg (enC x).toArray] W (Aye W) := by
  rcases few_cases n es with h | ⟨h0, h1, hf, hl, hvl⟩
  · exact inv_out nd pv rm n A c es x W hA hvx h
  · rcases Nat.lt_or_ge 200 x.v.length with h2 | h2
    · exact inv_long nd pv rm n A c es x W hA hl hvl hf hvx h0 h1 hx h2
    · cases hh : hasK ((ofE es).map En.ent) x.k with
      | true => exact inv_yes nd pv rm n A c es x W hA hl hvl hf hvx h0 h1 hx h2 hh
      | false => exact inv_no nd pv rm n A c es x W hA hl hvl hf hvx h0 h1 hx h2 hh
theorem rall_w {M : World → Int → Tv → Prop} (nd : NdV M) (fv : FnV M) (pv : PtV M) (rm : RmV M) (n : Int) (A : Option Addr) (c : Nat) (es : List En) (B : Option Addr) (d : Nat) (ks : List (List UInt8)) (W : World) (hA : EA W A es) (hvx : Vars W) (hB : KS W B ks) : Calls Tryd.prog 6 #[.int .i64 n, .slice A es.length c, .slice B ks.length d] W (Aye W) := by
  rcases few_cases n es with h | ⟨h0, h1, hf, hl, hvl⟩
  · exact rall_out nd pv rm n A c es B d ks W hA hvx h
  · rcases Nat.lt_or_ge 20 ks.length with h2 | h2
    · exact rall_long nd pv rm n A c es B d ks W hA hl hvl hf hvx h0 h1 h2
    · exact rall_in nd fv pv rm n A c es B d ks W hA hl hvl hf hvx h0 h1 hB h2
theorem rat_w {M : World → Int → Tv → Prop} (nd : NdV M) (fv : FnV M) (pv : PtV M) (rm : RmV M) (n : Int) (A : Option Addr) (c : Nat) (es : List En) (k : List UInt8) (d : Int) (hk : k.length = 32) (W : World) (hA : EA W A es) (hvx : Vars W) : Calls Tryd.prog 7 #[.int .i64 n, .slice A es.length c, .agg (k.map bv ++ [Value.int .i64 d]).toArray] W (Aye W) := by
  rcases few_cases n es with h | ⟨h0, h1, hf, hl, hvl⟩
  · exact rat_out nd pv rm n A c es k d W hA hvx h
  · rcases Int.lt_or_le d 0 with hd | hd
    · exact rat_low nd pv rm n A c es k d hk W hA hl hvl hf hvx h0 h1 hd
    · rcases Int.lt_or_le 256 d with hd2 | hd2
      · exact rat_deep nd pv rm n A c es k d hk W hA hl hvl hf hvx h0 h1 hd2
      · obtain ⟨q, rfl⟩ : ∃ q : Nat, d = (q : Int) := ⟨d.toNat, by omega⟩
        exact rat_in nd fv pv rm n A c es k q hk W hA hl hvl hf hvx h0 h1 (by omega)
end Go.Proofs.YtjhpnlnghaljaaaDoor
