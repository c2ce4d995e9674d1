/- The reference's Prove (by program: gen-tpl15-rprove.py). -/
import Derived.Test.YtbkokcfmndiedaaGreatDoorAD
import Derived.Test.YtbkokcfmndiedaaGreatDoorAY
import Derived.Test.YtbkokcfmndiedaaGreatDoorHH
import Derived.Test.YtbkokcfmndiedaaGreatDoorMR
import Derived.Test.YtbkokcfmndiedaaGreatDoorMO
import Derived.Test.YtbkokcfmndiedaaGreatDoorMM
import Derived.Test.YtbkokcfmndiedaaGreatDoorLr
namespace Go.Proofs.YtbkokcfmndiedaaGreatDoor
open Go.RowKit

theorem below_cell15 {B g j : Nat} {a w : World} {x : Value} (h : Below B a w) (hg : B ≤ g) : Below B a (w.setCell ⟨g, j, none⟩ x) :=
  ⟨h.os, h.tape, h.output, by simpa [World.setCell] using h.size, fun i hi => by rw [heap_setCell_other _ _ _ _ (show i ≠ g by omega)]; exact h.block i hi⟩
theorem kc_bmL {k : Nat → Nat} (hk : Bt.Byt k) : Bt.kc k = bA (bmL k) := by
  rw [bA_key _ (bmL_len k)]
  exact Bt.kc_congr fun j hj => (keyF_bmL hk j hj).symm
theorem sibE_le (es : List En) (k : List UInt8) (m : Nat) : (sibE es k m).length ≤ es.length := Nat.le_trans (partE_len _ _ _) (dE_len es k m)
theorem sibE_mem {es : List En} {k : List UInt8} {m : Nat} {e : En} (h : e ∈ sibE es k m) : e ∈ es := dE_mem (partE_mem h)
/-- One number is appended: the one block that changes is told. -/
theorem wpList_pushZ11 {ops : Array Oper} {rest : List Oper} {o : Oper} {a : Act} {w : World} {Q : Exit → Act → World → Prop} (hgd : o.guard = none) (s x : Operand)
    (ho : o.op = .call { callee := .builtin .append, args := #[s, x], argTypes := #[43, 43] }) (B : Nat) (v : Value) (l : List Int) (hs : a.eval s = v) (hown : Bt.OwnZ w B v l) (g : Nat) (d : Int)
    (hx : a.eval x = .slice (some ⟨g, 0, none⟩) 1 1) (hr : w.cell? ⟨g, 0, none⟩ = some (.int .i64 d)) (hl : l.length ≤ 1000000) (hB : B ≤ w.heap.size)
    (h : ∀ v' w', Bt.OwnZ w' B v' (l ++ [d]) → Grown11 v v' w w' → wpList Tryz.prog ops Q rest (a.put o.dst v') w') : wpList Tryz.prog ops Q (o :: rest) a w := by
  obtain ⟨i0, hi, hz0, hz1, hz2⟩ := info_parts Bt.infoZ
  refine wpList_append_own_at (w := w) hgd s x 43 ho B 3 i0 _ 1 8 Tryz.underlying43 hi hz0 hz1 hz2 rfl (by decide) v l.length (l.map Bt.zv) hs hown ⟨g, 0, none⟩ 1 1 [Bt.zv d] hx rfl
    (fun j u hj => ?_) (fun u hu => ?_) (by unfold maxLen; omega) (by omega) hB fun v' w' h1 h2 _ h4 => h v' w' ?_ ⟨h2, h4⟩
  · match j, hj with
    | 0, hj =>
      simp at hj
      rw [← hj]
      simpa [Addr.add, Bt.zv] using hr
  · simp at hu; subst hu; rfl
  · unfold Bt.OwnZ
    rw [List.map_append, List.length_append]
    simpa using h1
set_option linter.unusedSimpArgs false in
set_option maxHeartbeats 16000000 in
set_option maxRecDepth 100000 in
theorem rprove_c (n : Int) (A : Option Addr) (c : Nat) (es : List En) (k : List UInt8) (w : World) (hA : EA w A es) (hn : es.length ≤ 100000) (hv : ∀ e ∈ es, e.v.length ≤ 1000) (hk : k.length = 32) (hs : Sep 0 (es.map En.ent)) :
    Calls Tryz.prog 7 #[.int .i64 n, .slice A es.length c, .agg (bA k)] w fun e w' => ∃ (D : Nat) (A' : Option Addr) (c' : Nat), e = .returned (.agg (pfC (prK n (es.map En.ent) k D) (.slice A' (prK n (es.map En.ent) k D).sib.length c'))) ∧ DS w' A' (prK n (es.map En.ent) k D).sib ∧
      (∀ j, j < D → 2 ≤ (dK (es.map En.ent) k j).length) ∧ (dK (es.map En.ent) k D).length ≤ 1 ∧ D ≤ 256 ∧ Below w.heap.size w w' := by
  obtain ⟨X, hX⟩ : ∃ X, X = (w.alloc (.cells (bA k) 24)).alloc (.cells (pfC zPf (.slice none 0 0)) 36) := ⟨_, rfl⟩
  have hB : Below w.heap.size w X := by rw [hX]; exact Bt.two_below _ _ _
  have HR0 : Hid (RowB X w.heap.size 24 k) := by show RowB _ _ _ _; rw [hX]; exact heap_alloc2_old w _ _
  have HRX : Hid (PfAt X (w.heap.size + 1) zPf (.slice none 0 0)) := by show PfAt _ _ _ _; rw [hX]; exact heap_alloc2_new w _ _
  have HE := Lib.hid (end8_c A c es k X (hA.below hB) hn hk hs)
  have lk := HR0.out.ldKey hk
  rw [hX] at lk
  have HX := Lib.hid hX
  have HB := Lib.hid hB
  have HA := Lib.hid hA
  have HN := Lib.hid hn
  have HVL := Lib.hid hv
  have HKK := Lib.hid hk
  have HSEP0 := Lib.hid hs
  clear hA hn hv hk hs hX hB
  go_enter Tryz.func7, Tryz.ntmps7
  go_wp2_with fail
  rw [← HX.out]
  clear HX lk
  refine HE.out.mono ?_
  rintro _ w1 ⟨A1, c1, D, rfl, hE1, hj, h1D, hD, hB1⟩
  obtain ⟨l, hl⟩ : ∃ l, l = es.map En.ent := ⟨_, rfl⟩
  have HLL := Lib.hid hl
  have HDE : Hid (∀ j, (dE es k j).map En.ent = dK l k j) := fun j => by rw [hl]; exact dE_ent es k j
  have HDL : Hid (∀ j, (dE es k j).length = (dK l k j).length) := fun j => by rw [← HDE.out, List.length_map]
  have HSEP : Hid (Sep 0 l) := by show Sep _ _; rw [hl]; exact HSEP0.out
  have HJ : Hid (∀ j, j < D → 2 ≤ (dK l k j).length) := fun j h => by rw [← HDL.out]; exact hj j h
  have HD1 : Hid ((dK l k D).length ≤ 1) := by show _ ≤ _; rw [← HDL.out]; exact h1D
  have HD2 := Lib.hid hD
  have HBX1 := Lib.hid hB1
  have bd := bldPf_dep (D : Int)
  have st2 := stPf_new w1 (p := ⟨0, (D : Int), z64, z26, []⟩) (z := zPf) ⟨rfl, rfl, fun s h => by simp at h⟩ zPf_ok none 0 0 (.slice none 0 0)
  have hcase : dE es k D = [] ∨ ∃ e, dE es k D = [e] := by
    match hde : dE es k D with
    | [] => exact .inl rfl
    | [e] => exact .inr ⟨e, rfl⟩
    | a :: b :: r => rw [hde] at h1D; simp at h1D
  clear hl hj h1D hB1 HE HSEP0 HDL
  rcases hcase with hde | ⟨e, hde⟩
  · have HDK : Hid (dK l k D = []) := by show _ = _; rw [← HDE.out, hde]; rfl
    rw [hde]
    clear hde hE1
    go_wp2
    obtain ⟨V, hV⟩ : ∃ V, V = (w1.alloc (.cells (pfC ⟨0, (D : Int), z64, z26, []⟩ (.slice none 0 0)) 36)) := ⟨_, rfl⟩
    have hPV : PfAt V w1.heap.size ⟨kindO (dK l k D), D, leafO n (dK l k D), z26, []⟩ (.slice none 0 0) := by rw [hV, HDK.out]; exact PfAt.one _ _ _
    have hXV : Below X.heap.size X V := by rw [hV]; exact HBX1.out.alloc HBX1.out.size _
    rw [← hV]
    clear hV bd st2 HDK
    have HGV : Hid (w1.heap.size < V.heap.size) := hPV.lt
    have HGX : Hid (X.heap.size ≤ w1.heap.size) := HBX1.out.size
    have HVX : Hid (Below X.heap.size X V) := hXV
    have HP1 := Lib.hid hPV
    have hpo : Pf.Ok ⟨kindO (dK l k D), D, leafO n (dK l k D), z26, []⟩ := ⟨leafO_len fun e he => HSEP.out.len e (dK_mem.1 he).1, rfl, fun s h => by simp at h⟩
    have HP1O := Lib.hid hpo
    clear hPV hXV hpo
    go_loopg [10, 11] D (fun g2 v j wr => ∃ (m : Nat) (As : Option Addr) (cs : Nat), j = .int .i64 m ∧ m ≤ D ∧ D - m ≤ g2 ∧ Bt.OwnZ wr V.heap.size v (depS l k m) ∧ PfAt wr w1.heap.size ⟨kindO (dK l k D), D, leafO n (dK l k D), z26, []⟩ (.slice As (sibS n l k m).length cs) ∧ OwnD wr V.heap.size (.slice As (sibS n l k m).length cs) (sibS n l k m) ∧ (∀ i, v.ownBlock = some i → (Value.slice As (sibS n l k m).length cs).ownBlock = some i → False) ∧ Keep (fun i => i = w1.heap.size) V wr)
    case atStart => exact ⟨0, none, 0, rfl, by omega, by omega, Bt.OwnZ.nil _ _, HP1.out, OwnD.nil _ _, fun _ h => by simp [Value.ownBlock] at h, Keep.refl _ _⟩
    case round =>
      obtain ⟨m, As, cs, rfl, hm, hg2, hO, hP, hS, hdis, hK⟩ := hrel
      have HBR : Hid (Below X.heap.size X wr) := keep_new HVX.out HGX.out hK
      have HVR : Hid (V.heap.size ≤ wr.heap.size) := hK.size
      have HKR := Lib.hid hK
      have HPR := Lib.hid hP
      have HZ2 := Lib.hid hO
      have HS2 := Lib.hid hS
      have HDIS : Hid (∀ i, u10.ownBlock = some i → (Value.slice As (sibS n l k m).length cs).ownBlock = some i → False) := hdis
      have HBW : Hid (Below w.heap.size w wr) := HB.out.trans (HBR.out.mono HB.out.size)
      by_cases hlt : m < D
      · have hd : decide (m < D) = true := decide_eq_true hlt
        have hd' : decide ((m : Int) < (D : Int)) = true := decide_eq_true (by omega)
        have h256 : m < 256 := by omega
        have lk := (HR0.out.below HBR.out).ldKey HKK.out
        have HSB := Lib.hid (sibling15_c A c es k m wr (HA.out.below HBW.out) HN.out HKK.out h256)
        clear hO hP hS hdis hK
        go_wp2_with fail
        refine HSB.out.mono ?_
        rintro _ w2 ⟨A2, c2, rfl, hE2, hA2, hb2⟩
        have HSE := Lib.hid (sibE_ent es k m)
        clear HSB lk
        by_cases hemp : sibE es k m = []
        · have hsk : sibK l k m = [] := by rw [HLL.out, ← HSE.out, hemp]; rfl
          have HDS := Lib.hid (depS_no hsk)
          have HSS := Lib.hid (sibS_no (n := n) hsk)
          have HZ3 := Lib.hid (HZ2.out.below hb2)
          have HS3 := Lib.hid (HS2.out.below hb2)
          have HP3 := Lib.hid (HPR.out.below hb2 HPR.out.lt)
          have HK3 := Lib.hid (HKR.out.trans (Keep.of_below hb2))
          rw [hemp]
          clear hemp hsk hE2 hA2 hb2
          go_wp2
          go_roundg (D - (m + 1))
          case measure => omega
          case rel =>
            refine ⟨m + 1, As, cs, by go_num, by omega, by omega, ?_, ?_, ?_, ?_, HK3.out⟩
            · rw [HDS.out]; exact HZ3.out
            · rw [HSS.out]; exact HP3.out
            · rw [HSS.out]; exact HS3.out
            · rw [HSS.out]; exact HDIS.out
        · obtain ⟨N2, hN2⟩ : ∃ N2, N2 = (sibE es k m).length := ⟨_, rfl⟩
          have hpos : 0 < N2 := by rw [hN2]; exact List.length_pos_iff.2 hemp
          have hsk : sibK l k m ≠ [] := fun h => hemp (List.map_eq_nil_iff.1 (by rw [HSE.out, ← HLL.out, h]))
          have HDS := Lib.hid (depS_yes hsk)
          obtain ⟨rt, hrt⟩ : ∃ rt, rt = rootK (256 - m) n (sibK l k m) ((m : Int) + 1) := ⟨_, rfl⟩
          have HSS : Hid (sibS n l k (m + 1) = sibS n l k m ++ [rt]) := by show _ = _; rw [hrt]; exact sibS_yes hsk
          have HRL : Hid (rt.length = 32) := by show _ = _; rw [hrt]; exact rootK_len _ _ _ _
          have HMM : Hid (∀ s ∈ sibS n l k m ++ [rt], s.length = 32) := fun s hs => by
            rcases List.mem_append.1 hs with h | h
            · exact sibS_mem h
            · rw [List.mem_singleton.1 h]; exact HRL.out
          have hdl := depS_le l k m
          have HSL : Hid ((sibS n l k m).length ≤ 1000000) := by show _ ≤ _; rw [← depS_len]; omega
          have HE2 := Lib.hid hE2
          have HA2 := Lib.hid hA2
          have HB2 := Lib.hid hb2
          have HN2 := Lib.hid hN2
          have HRT := Lib.hid hrt
          have d3 : decide (0 < N2) = true := decide_eq_true hpos
          have d3' : decide ((0 : Int) < (N2 : Int)) = true := decide_eq_true (by omega)
          rw [← hN2]
          clear hemp hsk hE2 hA2 hb2 hN2 hrt hpos
          go_wp2_with (at_builtin; refine wpList_pushZ11 rfl _ _ rfl V.heap.size _ (depS l k m) rfl ((HZ2.out.below HB2.out).below (Bt.one_below _ _)) w2.heap.size (m : Int) rfl (Bt.cell_oneZ _ _ _) (by omega) (by have := HVR.out; have := HB2.out.size; simp; omega) ?_)
          intro v3 Y1 hZ3 hG3
          have HZ3 := Lib.hid hZ3
          have HG3 := Lib.hid hG3
          have HB23 := HB2
          have hb3 : Below V.heap.size (w2.alloc (.cells #[.int .i64 (m : Int)] 3)) Y1 := (Below.refl _ _).grown hG3.by_ (by have := HVR.out; have := HB2.out.size; simp; omega) (Bt.OwnZ.ge HZ2.out)
          have HWY : Hid (Below V.heap.size wr Y1) := ((HB2.out.mono HVR.out).trans ((Bt.one_below _ _).mono (Nat.le_trans HVR.out HB2.out.size))).trans hb3
          have HVY : Hid (V.heap.size ≤ Y1.heap.size) := Nat.le_trans HVR.out HWY.out.size
          have HPY := Lib.hid (HPR.out.below HWY.out HGV.out)
          have HS3 : Hid (OwnD Y1 V.heap.size (.slice As (sibS n l k m).length cs) (sibS n l k m)) := row11_keep ((HS2.out.below HB2.out).below (Bt.one_below _ _)) hG3.keep fun g h1 h2 => HDIS.out g h2 h1
          have LB : Hid (∀ q, Below V.heap.size Y1 q → q.cell? ⟨w1.heap.size, 98, none⟩ = some (.slice As (sibS n l k m).length cs)) := fun q h => (HPY.out.below h HGV.out).sib HP1O.out
          have HRC : Hid (∀ q, Below Y1.heap.size Y1 q → Calls Tryz.prog 24 #[.int .i64 n, .slice A2 N2 c2, .int .i64 ((m : Int) + 1)] q fun e w' => e = .returned (.agg (bA rt)) ∧ Below q.heap.size q w') := fun q h => by
            have hE : EA q A2 (sibE es k m) := EA.below (rp_ea HE2.out HA2.out HG3.out HZ2.out fun e he => (HA.out.mem e (sibE_mem he)).below (HBW.out.trans (HWY.out.mono (Nat.le_trans HB.out.size HVX.out.size)))) h
            have := root7_c n (256 - m) A2 c2 (sibE es k m) ((m : Int) + 1) q hE (Nat.le_trans (sibE_le es k m) HN.out) (fun e he => HVL.out e (sibE_mem he)) (.inr ⟨by omega, by omega, by omega⟩)
            rw [HSE.out, ← HLL.out, ← HRT.out, ← HN2.out] at this
            exact this
          have bsx := bsD_one rt HRL.out
          have hw9 : IntKind.i64.wrap ((m : Int) + 1) = (m : Int) + 1 := Bt.wrap_inr (by omega) (by omega)
          clear hZ3 hG3 hb3 d3 d3' HB2
          go_wp2_with fail
          refine region_heldT 10 (fun q => Below V.heap.size Y1 q) (by kernel_rfl) ?_
          have hHeld : Below V.heap.size Y1 Y1.drew := (Below.refl _ _).drew
          refine HeldT.take (i := 0) (oi := { dst := some 52, op := .fieldAddr _ (.tmp 9) 4, type := _, pos := _, after := _, guard := _ }) (v := ?_) rfl (by kernel_rfl) (by kernel_rfl) (by kernel_rfl) (by kernel_rfl) (fun _ _ _ h => h) (Or.inl ⟨by rfl, ?_⟩) (by assumption) ?_
          rotate_left 1
          · intro v hSv
            clear hSv
            go_simp
            try with_reducible rfl
          try simp only [Act.put, List.setIfInBounds_toArray, List.set_cons_zero, List.set_cons_succ]
          refine HeldT.take (i := 1) (oi := { dst := some 53, op := .load _ (.tmp 52), type := _, pos := _, after := _, guard := _ }) (v := ?_) rfl (by kernel_rfl) (by kernel_rfl) (by kernel_rfl) (by kernel_rfl) (fun _ _ _ h => h) (Or.inl ⟨by rfl, ?_⟩) (by assumption) ?_
          rotate_left 1
          · intro v hSv
            have hv1 := LB.out v hSv
            clear hSv
            go_simp
            try with_reducible rfl
          try simp only [Act.put, List.setIfInBounds_toArray, List.set_cons_zero, List.set_cons_succ]
          refine HeldT.take (i := 2) (oi := { dst := some 54, op := .move (.tmp 0), type := _, pos := _, after := _, guard := _ }) (v := ?_) rfl (by kernel_rfl) (by kernel_rfl) (by kernel_rfl) (by kernel_rfl) (fun _ _ _ h => h) (Or.inl ⟨by rfl, ?_⟩) (by assumption) ?_
          rotate_left 1
          · intro v hSv
            clear hSv
            go_simp
            try with_reducible rfl
          try simp only [Act.put, List.setIfInBounds_toArray, List.set_cons_zero, List.set_cons_succ]
          refine HeldT.take (i := 3) (oi := { dst := some 55, op := .move (.tmp 12), type := _, pos := _, after := _, guard := _ }) (v := ?_) rfl (by kernel_rfl) (by kernel_rfl) (by kernel_rfl) (by kernel_rfl) (fun _ _ _ h => h) (Or.inl ⟨by rfl, ?_⟩) (by assumption) ?_
          rotate_left 1
          · intro v hSv
            clear hSv
            go_simp
            try with_reducible rfl
          try simp only [Act.put, List.setIfInBounds_toArray, List.set_cons_zero, List.set_cons_succ]
          refine HeldT.take (i := 4) (oi := { dst := some 56, op := .move (.tmp 11), type := _, pos := _, after := _, guard := _ }) (v := ?_) rfl (by kernel_rfl) (by kernel_rfl) (by kernel_rfl) (by kernel_rfl) (fun _ _ _ h => h) (Or.inl ⟨by rfl, ?_⟩) (by assumption) ?_
          rotate_left 1
          · intro v hSv
            clear hSv
            go_simp
            try with_reducible rfl
          try simp only [Act.put, List.setIfInBounds_toArray, List.set_cons_zero, List.set_cons_succ]
          refine HeldT.take (i := 5) (oi := { dst := some 57, op := .binOp .add _ (.tmp 56) (.const (.int .i64 1)) _, type := _, pos := _, after := _, guard := _ }) (v := ?_) rfl (by kernel_rfl) (by kernel_rfl) (by kernel_rfl) (by kernel_rfl) (fun _ _ _ h => h) (Or.inl ⟨by rfl, ?_⟩) (by assumption) ?_
          rotate_left 1
          · intro v hSv
            clear hSv
            go_simp
            try with_reducible rfl
          try simp only [Act.put, List.setIfInBounds_toArray, List.set_cons_zero, List.set_cons_succ]
          refine HeldT.one (i := 6) (o := { dst := some 58, op := .call _, type := _, pos := _, after := _, guard := _ }) (by kernel_rfl) rfl rfl (fun K hK => ?_)
          go_wp2_with fail
          refine (HRC.out _ ((Below.refl _ _).drew)).mono ?_
          rintro e y1 ⟨rfl, hb⟩
          have hq1 : Below Y1.heap.size Y1 y1 := ((Below.refl _ _).drew).trans hb
          have HQ1 := Lib.hid hq1
          clear hb
          go_wp2_with fail
          refine hK.out _ _ (fun _ => hq1.mono HVY.out) (fun hS => ?_)
          have hHeld := hS (by decide)
          clear hS hK K
          try simp only [Act.put, List.setIfInBounds_toArray, List.set_cons_zero, List.set_cons_succ]
          clear hq1
          refine HeldT.one (i := 7) (o := { dst := some 59, op := .buildSlice _ _ _, type := _, pos := _, after := _, guard := _ }) (by kernel_rfl) rfl rfl (fun K hK => ?_)
          obtain ⟨Z, hZ⟩ : ∃ Z, Z = y1.alloc (.cells (bA rt) 31) := ⟨_, rfl⟩
          have hq2 : Below Y1.heap.size Y1 Z := by rw [hZ]; exact HQ1.out.alloc HQ1.out.size _
          have HZR : Hid (Z.rangeAt y1.heap.size 0 (dC rt)) := by show World.rangeAt _ _ _ _; rw [hZ]; exact dig_made _ _ _
          have HQ2 := Lib.hid hq2
          have HZ := Lib.hid hZ
          clear hZ HQ1
          go_wp2_with fail
          rw [← HZ.out]
          refine hK.out _ _ (fun _ => hq2.mono HVY.out) (fun hS => ?_)
          have hHeld := hS (by decide)
          clear hS hK K
          try simp only [Act.put, List.setIfInBounds_toArray, List.set_cons_zero, List.set_cons_succ]
          clear hq2 HZ
          refine HeldT.one (i := 8) (o := { dst := some 60, op := .call _, type := _, pos := _, after := _, guard := _ }) (by kernel_rfl) rfl rfl (fun K hK => ?_)
          have HOZ := Lib.hid (HS3.out.below HQ2.out)
          have hzs : V.heap.size ≤ Z.heap.size := Nat.le_trans HVY.out HQ2.out.size
          go_wp2_with (at_builtin; refine wpList_pushD rfl _ _ rfl V.heap.size (.slice As (sibS n l k m).length cs) (sibS n l k m) rfl HOZ.out y1.heap.size rt HRL.out rfl HZR.out HSL.out hzs ?_; intro v9 w9 hO9 hG9; obtain ⟨A9, c9, rfl, _, _⟩ := hO9.ds HMM.out)
          have HO9 := Lib.hid hO9
          have HG9 := Lib.hid hG9
          have HS9 : Hid (Below V.heap.size Y1 w9) := (HQ2.out.mono HVY.out).trans ((Below.refl _ _).grown hG9.by_ hzs HOZ.out.ge)
          refine hK.out _ _ (fun _ => HS9.out) (fun hS => ?_)
          have hHeld := hS (by decide)
          clear hS hK K
          try simp only [Act.put, List.setIfInBounds_toArray, List.set_cons_zero, List.set_cons_succ]
          clear hO9 hG9 hzs HOZ HZR
          refine HeldT.take (i := 9) (oi := { dst := some 61, op := .fieldAddr _ (.tmp 9) 4, type := _, pos := _, after := _, guard := _ }) (v := ?_) rfl (by kernel_rfl) (by kernel_rfl) (by kernel_rfl) (by kernel_rfl) (fun _ _ _ h => h) (Or.inl ⟨by rfl, ?_⟩) (by assumption) ?_
          rotate_left 1
          · intro v hSv
            clear hSv
            go_simp
            try with_reducible rfl
          try simp only [Act.put, List.setIfInBounds_toArray, List.set_cons_zero, List.set_cons_succ]
          refine HeldT.one (i := 10) (o := { dst := none, op := .store _ (.tmp 61) (.tmp 60), type := _, pos := _, after := _, guard := _ }) (by kernel_rfl) rfl rfl (fun K hK => ?_)
          have hP9 : PfAt w9 w1.heap.size ⟨kindO (dK l k D), D, leafO n (dK l k D), z26, []⟩ (.slice As (sibS n l k m).length cs) := HPY.out.below HS9.out HGV.out
          have hcell := hP9.sib HP1O.out
          have hfree : w9.frozen? ⟨w1.heap.size, 98, none⟩ = false := frozen_of_row w9 _ _ _ _ hP9
          obtain ⟨HZW, HPW, HOW, HDW, HKW⟩ := rp_end HGV.out rfl HP1O.out HKR.out HB23.out HZ2.out HS2.out HDIS.out HG3.out HZ3.out HQ2.out HG9.out HO9.out hP9
          clear hP9
          go_wp2_with fail
          refine hK.out _ _ (fun h => absurd rfl h) (fun _ => ?_)
          clear hK K
          refine HeldT.done (by kernel_rfl) ?_ _
          go_wp2
          go_roundg (D - (m + 1))
          case measure => omega
          case rel =>
            have e9 : (sibS n l k m ++ [rt]).length = (sibS n l k m).length + 1 := List.length_append
            rw [e9] at HZW HPW HOW HDW HKW
            refine ⟨m + 1, A9, c9, by go_num, by omega, by omega, ?_, ?_, ?_, ?_, HKW.out⟩
            · rw [HDS.out]; exact HZW.out
            · rw [HSS.out, e9]; exact HPW.out
            · rw [HSS.out, e9]; exact HOW.out
            · rw [HSS.out, e9]; exact HDW.out
      · have hd : decide (m < D) = false := decide_eq_false hlt
        have hd' : decide ((m : Int) < (D : Int)) = false := decide_eq_false (by omega)
        obtain rfl : m = D := by omega
        obtain ⟨A8, c8, rfl, hz8⟩ := hO.is
        have HZ8 := Lib.hid hz8
        have hdl := depS_le l k m
        clear hO hP hS hdis hK hz8 hlt hm hg2
        go_wp2_with fail
        refine (Bt.rbytes_c A8 c8 (depS l k m) wr HZ8.out (by omega)).mono ?_
        rintro _ w5 ⟨rfl, hb5⟩
        rw [kc_bmL (Bt.ofK_byt _)]
        have hP5 := HPR.out.below hb5 HPR.out.lt
        obtain ⟨st, hP6⟩ := hP5.stBm HP1O.out (bmL (Bt.ofK (depS l k m))) (bmL_len _)
        have st' : Bt.stAr w5 (.pointer (some ⟨w1.heap.size, 66, none⟩)) (.agg (bA (bmL (Bt.ofK (depS l k m))))) = .ok .skip (w5.setCells w1.heap.size 66 ((bmL (Bt.ofK (depS l k m))).map bv)) := st
        obtain ⟨Z6, hZ6⟩ : ∃ Z, Z = w5.setCells w1.heap.size 66 ((bmL (Bt.ofK (depS l k m))).map bv) := ⟨_, rfl⟩
        rw [← hZ6] at st st' hP6
        have hP7 : PfAt Z6 w1.heap.size (prK n l k m) (.slice As (prK n l k m).sib.length cs) := hP6
        have hqo : (prK n l k m).Ok := prK_ok HSEP.out k
        have hB6 : Below X.heap.size X Z6 := by rw [hZ6]; exact below_setCells HGX.out _ _ _ (HBR.out.trans (hb5.mono HBR.out.size))
        have hR6 : PfAt Z6 (w.heap.size + 1) zPf (.slice none 0 0) := HRX.out.below hB6 HRX.out.lt
        have ld6 := hP7.ld hqo
        have st6 : stA 36 Z6 (.pointer (some ⟨w.heap.size + 1, 0, none⟩)) (.agg (pfC (prK n l k m) (.slice As (prK n l k m).sib.length cs))) = .ok .skip (Z6.setRow (w.heap.size + 1) (pfC (prK n l k m) (.slice As (prK n l k m).sib.length cs))) := stA_row hR6 (by rw [pfC_size hqo]; exact infoPf) (by rw [pfC_size hqo, pfC_size zPf_ok]) (pfC_one _ _ _ _)
        have HROW : Hid (PfAt (Z6.setRow (w.heap.size + 1) (pfC (prK n l k m) (.slice As (prK n l k m).sib.length cs))) (w.heap.size + 1) (prK n l k m) (.slice As (prK n l k m).sib.length cs)) := setRow_heap _ _ _ _ _ _ hR6
        have HDSF : Hid (DS (Z6.setRow (w.heap.size + 1) (pfC (prK n l k m) (.slice As (prK n l k m).sib.length cs))) As (prK n l k m).sib) := by
          have hxs : w.heap.size + 1 < X.heap.size := HRX.out.lt
          have h1 : OwnD w5 V.heap.size (.slice As (prK n l k m).sib.length cs) (prK n l k m).sib := HS2.out.below hb5
          have h2 : OwnD (Z6.setRow (w.heap.size + 1) (pfC (prK n l k m) (.slice As (prK n l k m).sib.length cs))) V.heap.size (.slice As (prK n l k m).sib.length cs) (prK n l k m).sib := row11_other h1 fun g cs' hg hh => by
            have hge := h1.ge g hg
            rw [setRow_other _ _ _ _ (by have := HGV.out; have := HGX.out; omega), hZ6]
            exact set_block (by have := HGV.out; omega) _ _ _ hh
          exact h2.dsA hqo.sib
        have HBF : Hid (Below w.heap.size w (Z6.setRow (w.heap.size + 1) (pfC (prK n l k m) (.slice As (prK n l k m).sib.length cs)))) := Bt.below_row (HB.out.trans (hB6.mono HB.out.size)) (by omega) _
        have HQO := Lib.hid hqo
        clear hb5 hP5 hP6 hP7 hqo hB6 hR6 hZ6
        go_wp2
        refine bodyPost_ret (v := .agg (pfC (prK n l k m) (.slice As (prK n l k m).sib.length cs))) ?_ rfl ⟨m, As, cs, by rw [HLL.out], ?_⟩
        · exact results_cell_row Tryz.results7 _ _ (w.heap.size + 1) 36 _ (0, 0) _ rfl HROW.out Tryz.underlying36 rfl (by rw [pfC_size HQO.out]; exact infoPf)
        · rw [← HLL.out]
          exact ⟨HDSF.out, HJ.out, HD1.out, HD2.out, HBF.out⟩
  · have HDK : Hid (dK l k D = [e.ent]) := by show _ = _; rw [← HDE.out, hde]; rfl
    rw [hde] at hE1 ⊢
    have hme : e ∈ es := dE_mem (i := D) (k := k) (by rw [hde]; simp)
    obtain ⟨hok, b1, o1, rfl, hr⟩ := hE1 0 e rfl
    have hP0 : PfAt (w1.alloc (.cells (pfC ⟨0, (D : Int), z64, z26, []⟩ (.slice none 0 0)) 36)) w1.heap.size ⟨0, (D : Int), z64, z26, []⟩ (.slice none 0 0) := PfAt.one _ _ _
    have hcell := hP0.kind
    have hfree : (w1.alloc (.cells (pfC ⟨0, (D : Int), z64, z26, []⟩ (.slice none 0 0)) 36)).frozen? ⟨w1.heap.size, 0, none⟩ = false := frozen_of_row _ _ _ _ _ hP0
    have hev := HVL.out e hme
    clear hde hE1
    go_wp2_with fail
    obtain ⟨Y, hY⟩ : ∃ Y, Y = w1.alloc (.cells ((pfC ⟨0, (D : Int), z64, z26, []⟩ (.slice none 0 0)).setIfInBounds 0 (.int .i64 1)) 36) := ⟨_, rfl⟩
    have hb0 : Below w1.heap.size w1 Y := by rw [hY]; exact Bt.one_below _ _
    have hPY : PfAt Y w1.heap.size ⟨1, (D : Int), z64, z26, []⟩ (.slice none 0 0) := by
      rw [hY, show (pfC ⟨0, (D : Int), z64, z26, []⟩ (.slice none 0 0)).setIfInBounds 0 (.int .i64 1) = pfC ⟨1, (D : Int), z64, z26, []⟩ (.slice none 0 0) from by simp [pfC, pfL]]
      exact PfAt.one _ _ _
    rw [← hY]
    have lk := fun x : Later Y => range_key (range_below hr (hb0.trans (x.h.mono hb0.size))) hok.key
    have lv := fun x : Later Y => range_val (range_below hr (hb0.trans (x.h.mono hb0.size))) hok.key
    simp only [Nat.zero_mul, Nat.add_zero] at lk lv
    have HLO : Hid (∀ x : Later Y, Calls Tryz.prog 22 #[.int .i64 n, .agg (bA e.k), .slice e.A e.v.length e.c] x.w fun y w' => y = .returned (.agg (bA (e.k ++ digL n (valL e.v)))) ∧ Below x.w.heap.size x.w w') := fun x => rleafof_c n e.k e.A e.c e.v x.w hok.key (hok.val.below (hb0.trans (x.h.mono hb0.size))) hev
    have hlf : (e.k ++ digL n (valL e.v)).length = 64 := by rw [List.length_append, hok.key, dig_len]
    have HSTL : Hid (∀ x : Later Y, stA 33 x.w (.pointer (some ⟨w1.heap.size, 2, none⟩)) (.agg (bA (e.k ++ digL n (valL e.v)))) = .ok .skip (x.w.setCells w1.heap.size 2 ((e.k ++ digL n (valL e.v)).map bv)) ∧ PfAt (x.w.setCells w1.heap.size 2 ((e.k ++ digL n (valL e.v)).map bv)) w1.heap.size ⟨1, (D : Int), e.k ++ digL n (valL e.v), z26, []⟩ (.slice none 0 0)) := fun x =>
      (hPY.below x.h hPY.lt).stLf ⟨rfl, rfl, fun s h => by simp at h⟩ _ hlf
    have HB0 := Lib.hid hb0
    clear hY hP0 hcell hfree hok hr hev hme hlf hPY hb0 bd st2
    refine wp_region_later_tail 11 (by kernel_rfl) (by kernel_rfl) ?_
    simp only [List.take_succ_cons, List.take_zero, List.drop_succ_cons, List.drop_zero]
    repeat (go_big_quiet_step ((go_at_call 22; exact Later.call (HLO.out _))))
    refine wpQuiet_nil ?_
    rintro _ ⟨x, rfl⟩
    obtain ⟨stl, hPV⟩ := HSTL.out x
    obtain ⟨V, hV⟩ : ∃ V, V = x.w.setCells w1.heap.size 2 ((e.k ++ digL n (valL e.v)).map bv) := ⟨_, rfl⟩
    rw [← hV] at stl hPV
    have hXV : Below X.heap.size X V := by rw [hV]; exact below_setCells HBX1.out.size _ _ _ ((HBX1.out.trans (HB0.out.mono HBX1.out.size)).trans (x.h.mono (Nat.le_trans HBX1.out.size HB0.out.size)))
    have hPV : PfAt V w1.heap.size ⟨kindO (dK l k D), D, leafO n (dK l k D), z26, []⟩ (.slice none 0 0) := by rw [HDK.out]; exact hPV
    clear hV lk lv HLO HSTL HB0
    go_wp2
    clear stl HDK
    have HGV : Hid (w1.heap.size < V.heap.size) := hPV.lt
    have HGX : Hid (X.heap.size ≤ w1.heap.size) := HBX1.out.size
    have HVX : Hid (Below X.heap.size X V) := hXV
    have HP1 := Lib.hid hPV
    have hpo : Pf.Ok ⟨kindO (dK l k D), D, leafO n (dK l k D), z26, []⟩ := ⟨leafO_len fun e he => HSEP.out.len e (dK_mem.1 he).1, rfl, fun s h => by simp at h⟩
    have HP1O := Lib.hid hpo
    clear hPV hXV hpo
    go_loopg [10, 11] D (fun g2 v j wr => ∃ (m : Nat) (As : Option Addr) (cs : Nat), j = .int .i64 m ∧ m ≤ D ∧ D - m ≤ g2 ∧ Bt.OwnZ wr V.heap.size v (depS l k m) ∧ PfAt wr w1.heap.size ⟨kindO (dK l k D), D, leafO n (dK l k D), z26, []⟩ (.slice As (sibS n l k m).length cs) ∧ OwnD wr V.heap.size (.slice As (sibS n l k m).length cs) (sibS n l k m) ∧ (∀ i, v.ownBlock = some i → (Value.slice As (sibS n l k m).length cs).ownBlock = some i → False) ∧ Keep (fun i => i = w1.heap.size) V wr)
    case atStart => exact ⟨0, none, 0, rfl, by omega, by omega, Bt.OwnZ.nil _ _, HP1.out, OwnD.nil _ _, fun _ h => by simp [Value.ownBlock] at h, Keep.refl _ _⟩
    case round =>
      obtain ⟨m, As, cs, rfl, hm, hg2, hO, hP, hS, hdis, hK⟩ := hrel
      have HBR : Hid (Below X.heap.size X wr) := keep_new HVX.out HGX.out hK
      have HVR : Hid (V.heap.size ≤ wr.heap.size) := hK.size
      have HKR := Lib.hid hK
      have HPR := Lib.hid hP
      have HZ2 := Lib.hid hO
      have HS2 := Lib.hid hS
      have HDIS : Hid (∀ i, u10.ownBlock = some i → (Value.slice As (sibS n l k m).length cs).ownBlock = some i → False) := hdis
      have HBW : Hid (Below w.heap.size w wr) := HB.out.trans (HBR.out.mono HB.out.size)
      by_cases hlt : m < D
      · have hd : decide (m < D) = true := decide_eq_true hlt
        have hd' : decide ((m : Int) < (D : Int)) = true := decide_eq_true (by omega)
        have h256 : m < 256 := by omega
        have lk := (HR0.out.below HBR.out).ldKey HKK.out
        have HSB := Lib.hid (sibling15_c A c es k m wr (HA.out.below HBW.out) HN.out HKK.out h256)
        clear hO hP hS hdis hK
        go_wp2_with fail
        refine HSB.out.mono ?_
        rintro _ w2 ⟨A2, c2, rfl, hE2, hA2, hb2⟩
        have HSE := Lib.hid (sibE_ent es k m)
        clear HSB lk
        by_cases hemp : sibE es k m = []
        · have hsk : sibK l k m = [] := by rw [HLL.out, ← HSE.out, hemp]; rfl
          have HDS := Lib.hid (depS_no hsk)
          have HSS := Lib.hid (sibS_no (n := n) hsk)
          have HZ3 := Lib.hid (HZ2.out.below hb2)
          have HS3 := Lib.hid (HS2.out.below hb2)
          have HP3 := Lib.hid (HPR.out.below hb2 HPR.out.lt)
          have HK3 := Lib.hid (HKR.out.trans (Keep.of_below hb2))
          rw [hemp]
          clear hemp hsk hE2 hA2 hb2
          go_wp2
          go_roundg (D - (m + 1))
          case measure => omega
          case rel =>
            refine ⟨m + 1, As, cs, by go_num, by omega, by omega, ?_, ?_, ?_, ?_, HK3.out⟩
            · rw [HDS.out]; exact HZ3.out
            · rw [HSS.out]; exact HP3.out
            · rw [HSS.out]; exact HS3.out
            · rw [HSS.out]; exact HDIS.out
        · obtain ⟨N2, hN2⟩ : ∃ N2, N2 = (sibE es k m).length := ⟨_, rfl⟩
          have hpos : 0 < N2 := by rw [hN2]; exact List.length_pos_iff.2 hemp
          have hsk : sibK l k m ≠ [] := fun h => hemp (List.map_eq_nil_iff.1 (by rw [HSE.out, ← HLL.out, h]))
          have HDS := Lib.hid (depS_yes hsk)
          obtain ⟨rt, hrt⟩ : ∃ rt, rt = rootK (256 - m) n (sibK l k m) ((m : Int) + 1) := ⟨_, rfl⟩
          have HSS : Hid (sibS n l k (m + 1) = sibS n l k m ++ [rt]) := by show _ = _; rw [hrt]; exact sibS_yes hsk
          have HRL : Hid (rt.length = 32) := by show _ = _; rw [hrt]; exact rootK_len _ _ _ _
          have HMM : Hid (∀ s ∈ sibS n l k m ++ [rt], s.length = 32) := fun s hs => by
            rcases List.mem_append.1 hs with h | h
            · exact sibS_mem h
            · rw [List.mem_singleton.1 h]; exact HRL.out
          have hdl := depS_le l k m
          have HSL : Hid ((sibS n l k m).length ≤ 1000000) := by show _ ≤ _; rw [← depS_len]; omega
          have HE2 := Lib.hid hE2
          have HA2 := Lib.hid hA2
          have HB2 := Lib.hid hb2
          have HN2 := Lib.hid hN2
          have HRT := Lib.hid hrt
          have d3 : decide (0 < N2) = true := decide_eq_true hpos
          have d3' : decide ((0 : Int) < (N2 : Int)) = true := decide_eq_true (by omega)
          rw [← hN2]
          clear hemp hsk hE2 hA2 hb2 hN2 hrt hpos
          go_wp2_with (at_builtin; refine wpList_pushZ11 rfl _ _ rfl V.heap.size _ (depS l k m) rfl ((HZ2.out.below HB2.out).below (Bt.one_below _ _)) w2.heap.size (m : Int) rfl (Bt.cell_oneZ _ _ _) (by omega) (by have := HVR.out; have := HB2.out.size; simp; omega) ?_)
          intro v3 Y1 hZ3 hG3
          have HZ3 := Lib.hid hZ3
          have HG3 := Lib.hid hG3
          have HB23 := HB2
          have hb3 : Below V.heap.size (w2.alloc (.cells #[.int .i64 (m : Int)] 3)) Y1 := (Below.refl _ _).grown hG3.by_ (by have := HVR.out; have := HB2.out.size; simp; omega) (Bt.OwnZ.ge HZ2.out)
          have HWY : Hid (Below V.heap.size wr Y1) := ((HB2.out.mono HVR.out).trans ((Bt.one_below _ _).mono (Nat.le_trans HVR.out HB2.out.size))).trans hb3
          have HVY : Hid (V.heap.size ≤ Y1.heap.size) := Nat.le_trans HVR.out HWY.out.size
          have HPY := Lib.hid (HPR.out.below HWY.out HGV.out)
          have HS3 : Hid (OwnD Y1 V.heap.size (.slice As (sibS n l k m).length cs) (sibS n l k m)) := row11_keep ((HS2.out.below HB2.out).below (Bt.one_below _ _)) hG3.keep fun g h1 h2 => HDIS.out g h2 h1
          have LB : Hid (∀ q, Below V.heap.size Y1 q → q.cell? ⟨w1.heap.size, 98, none⟩ = some (.slice As (sibS n l k m).length cs)) := fun q h => (HPY.out.below h HGV.out).sib HP1O.out
          have HRC : Hid (∀ q, Below Y1.heap.size Y1 q → Calls Tryz.prog 24 #[.int .i64 n, .slice A2 N2 c2, .int .i64 ((m : Int) + 1)] q fun e w' => e = .returned (.agg (bA rt)) ∧ Below q.heap.size q w') := fun q h => by
            have hE : EA q A2 (sibE es k m) := EA.below (rp_ea HE2.out HA2.out HG3.out HZ2.out fun e he => (HA.out.mem e (sibE_mem he)).below (HBW.out.trans (HWY.out.mono (Nat.le_trans HB.out.size HVX.out.size)))) h
            have := root7_c n (256 - m) A2 c2 (sibE es k m) ((m : Int) + 1) q hE (Nat.le_trans (sibE_le es k m) HN.out) (fun e he => HVL.out e (sibE_mem he)) (.inr ⟨by omega, by omega, by omega⟩)
            rw [HSE.out, ← HLL.out, ← HRT.out, ← HN2.out] at this
            exact this
          have bsx := bsD_one rt HRL.out
          have hw9 : IntKind.i64.wrap ((m : Int) + 1) = (m : Int) + 1 := Bt.wrap_inr (by omega) (by omega)
          clear hZ3 hG3 hb3 d3 d3' HB2
          go_wp2_with fail
          refine region_heldT 10 (fun q => Below V.heap.size Y1 q) (by kernel_rfl) ?_
          have hHeld : Below V.heap.size Y1 Y1.drew := (Below.refl _ _).drew
          refine HeldT.take (i := 0) (oi := { dst := some 52, op := .fieldAddr _ (.tmp 9) 4, type := _, pos := _, after := _, guard := _ }) (v := ?_) rfl (by kernel_rfl) (by kernel_rfl) (by kernel_rfl) (by kernel_rfl) (fun _ _ _ h => h) (Or.inl ⟨by rfl, ?_⟩) (by assumption) ?_
          rotate_left 1
          · intro v hSv
            clear hSv
            go_simp
            try with_reducible rfl
          try simp only [Act.put, List.setIfInBounds_toArray, List.set_cons_zero, List.set_cons_succ]
          refine HeldT.take (i := 1) (oi := { dst := some 53, op := .load _ (.tmp 52), type := _, pos := _, after := _, guard := _ }) (v := ?_) rfl (by kernel_rfl) (by kernel_rfl) (by kernel_rfl) (by kernel_rfl) (fun _ _ _ h => h) (Or.inl ⟨by rfl, ?_⟩) (by assumption) ?_
          rotate_left 1
          · intro v hSv
            have hv1 := LB.out v hSv
            clear hSv
            go_simp
            try with_reducible rfl
          try simp only [Act.put, List.setIfInBounds_toArray, List.set_cons_zero, List.set_cons_succ]
          refine HeldT.take (i := 2) (oi := { dst := some 54, op := .move (.tmp 0), type := _, pos := _, after := _, guard := _ }) (v := ?_) rfl (by kernel_rfl) (by kernel_rfl) (by kernel_rfl) (by kernel_rfl) (fun _ _ _ h => h) (Or.inl ⟨by rfl, ?_⟩) (by assumption) ?_
          rotate_left 1
          · intro v hSv
            clear hSv
            go_simp
            try with_reducible rfl
          try simp only [Act.put, List.setIfInBounds_toArray, List.set_cons_zero, List.set_cons_succ]
          refine HeldT.take (i := 3) (oi := { dst := some 55, op := .move (.tmp 12), type := _, pos := _, after := _, guard := _ }) (v := ?_) rfl (by kernel_rfl) (by kernel_rfl) (by kernel_rfl) (by kernel_rfl) (fun _ _ _ h => h) (Or.inl ⟨by rfl, ?_⟩) (by assumption) ?_
          rotate_left 1
          · intro v hSv
            clear hSv
            go_simp
            try with_reducible rfl
          try simp only [Act.put, List.setIfInBounds_toArray, List.set_cons_zero, List.set_cons_succ]
          refine HeldT.take (i := 4) (oi := { dst := some 56, op := .move (.tmp 11), type := _, pos := _, after := _, guard := _ }) (v := ?_) rfl (by kernel_rfl) (by kernel_rfl) (by kernel_rfl) (by kernel_rfl) (fun _ _ _ h => h) (Or.inl ⟨by rfl, ?_⟩) (by assumption) ?_
          rotate_left 1
          · intro v hSv
            clear hSv
            go_simp
            try with_reducible rfl
          try simp only [Act.put, List.setIfInBounds_toArray, List.set_cons_zero, List.set_cons_succ]
          refine HeldT.take (i := 5) (oi := { dst := some 57, op := .binOp .add _ (.tmp 56) (.const (.int .i64 1)) _, type := _, pos := _, after := _, guard := _ }) (v := ?_) rfl (by kernel_rfl) (by kernel_rfl) (by kernel_rfl) (by kernel_rfl) (fun _ _ _ h => h) (Or.inl ⟨by rfl, ?_⟩) (by assumption) ?_
          rotate_left 1
          · intro v hSv
            clear hSv
            go_simp
            try with_reducible rfl
          try simp only [Act.put, List.setIfInBounds_toArray, List.set_cons_zero, List.set_cons_succ]
          refine HeldT.one (i := 6) (o := { dst := some 58, op := .call _, type := _, pos := _, after := _, guard := _ }) (by kernel_rfl) rfl rfl (fun K hK => ?_)
          go_wp2_with fail
          refine (HRC.out _ ((Below.refl _ _).drew)).mono ?_
          rintro e y1 ⟨rfl, hb⟩
          have hq1 : Below Y1.heap.size Y1 y1 := ((Below.refl _ _).drew).trans hb
          have HQ1 := Lib.hid hq1
          clear hb
          go_wp2_with fail
          refine hK.out _ _ (fun _ => hq1.mono HVY.out) (fun hS => ?_)
          have hHeld := hS (by decide)
          clear hS hK K
          try simp only [Act.put, List.setIfInBounds_toArray, List.set_cons_zero, List.set_cons_succ]
          clear hq1
          refine HeldT.one (i := 7) (o := { dst := some 59, op := .buildSlice _ _ _, type := _, pos := _, after := _, guard := _ }) (by kernel_rfl) rfl rfl (fun K hK => ?_)
          obtain ⟨Z, hZ⟩ : ∃ Z, Z = y1.alloc (.cells (bA rt) 31) := ⟨_, rfl⟩
          have hq2 : Below Y1.heap.size Y1 Z := by rw [hZ]; exact HQ1.out.alloc HQ1.out.size _
          have HZR : Hid (Z.rangeAt y1.heap.size 0 (dC rt)) := by show World.rangeAt _ _ _ _; rw [hZ]; exact dig_made _ _ _
          have HQ2 := Lib.hid hq2
          have HZ := Lib.hid hZ
          clear hZ HQ1
          go_wp2_with fail
          rw [← HZ.out]
          refine hK.out _ _ (fun _ => hq2.mono HVY.out) (fun hS => ?_)
          have hHeld := hS (by decide)
          clear hS hK K
          try simp only [Act.put, List.setIfInBounds_toArray, List.set_cons_zero, List.set_cons_succ]
          clear hq2 HZ
          refine HeldT.one (i := 8) (o := { dst := some 60, op := .call _, type := _, pos := _, after := _, guard := _ }) (by kernel_rfl) rfl rfl (fun K hK => ?_)
          have HOZ := Lib.hid (HS3.out.below HQ2.out)
          have hzs : V.heap.size ≤ Z.heap.size := Nat.le_trans HVY.out HQ2.out.size
          go_wp2_with (at_builtin; refine wpList_pushD rfl _ _ rfl V.heap.size (.slice As (sibS n l k m).length cs) (sibS n l k m) rfl HOZ.out y1.heap.size rt HRL.out rfl HZR.out HSL.out hzs ?_; intro v9 w9 hO9 hG9; obtain ⟨A9, c9, rfl, _, _⟩ := hO9.ds HMM.out)
          have HO9 := Lib.hid hO9
          have HG9 := Lib.hid hG9
          have HS9 : Hid (Below V.heap.size Y1 w9) := (HQ2.out.mono HVY.out).trans ((Below.refl _ _).grown hG9.by_ hzs HOZ.out.ge)
          refine hK.out _ _ (fun _ => HS9.out) (fun hS => ?_)
          have hHeld := hS (by decide)
          clear hS hK K
          try simp only [Act.put, List.setIfInBounds_toArray, List.set_cons_zero, List.set_cons_succ]
          clear hO9 hG9 hzs HOZ HZR
          refine HeldT.take (i := 9) (oi := { dst := some 61, op := .fieldAddr _ (.tmp 9) 4, type := _, pos := _, after := _, guard := _ }) (v := ?_) rfl (by kernel_rfl) (by kernel_rfl) (by kernel_rfl) (by kernel_rfl) (fun _ _ _ h => h) (Or.inl ⟨by rfl, ?_⟩) (by assumption) ?_
          rotate_left 1
          · intro v hSv
            clear hSv
            go_simp
            try with_reducible rfl
          try simp only [Act.put, List.setIfInBounds_toArray, List.set_cons_zero, List.set_cons_succ]
          refine HeldT.one (i := 10) (o := { dst := none, op := .store _ (.tmp 61) (.tmp 60), type := _, pos := _, after := _, guard := _ }) (by kernel_rfl) rfl rfl (fun K hK => ?_)
          have hP9 : PfAt w9 w1.heap.size ⟨kindO (dK l k D), D, leafO n (dK l k D), z26, []⟩ (.slice As (sibS n l k m).length cs) := HPY.out.below HS9.out HGV.out
          have hcell := hP9.sib HP1O.out
          have hfree : w9.frozen? ⟨w1.heap.size, 98, none⟩ = false := frozen_of_row w9 _ _ _ _ hP9
          obtain ⟨HZW, HPW, HOW, HDW, HKW⟩ := rp_end HGV.out rfl HP1O.out HKR.out HB23.out HZ2.out HS2.out HDIS.out HG3.out HZ3.out HQ2.out HG9.out HO9.out hP9
          clear hP9
          go_wp2_with fail
          refine hK.out _ _ (fun h => absurd rfl h) (fun _ => ?_)
          clear hK K
          refine HeldT.done (by kernel_rfl) ?_ _
          go_wp2
          go_roundg (D - (m + 1))
          case measure => omega
          case rel =>
            have e9 : (sibS n l k m ++ [rt]).length = (sibS n l k m).length + 1 := List.length_append
            rw [e9] at HZW HPW HOW HDW HKW
            refine ⟨m + 1, A9, c9, by go_num, by omega, by omega, ?_, ?_, ?_, ?_, HKW.out⟩
            · rw [HDS.out]; exact HZW.out
            · rw [HSS.out, e9]; exact HPW.out
            · rw [HSS.out, e9]; exact HOW.out
            · rw [HSS.out, e9]; exact HDW.out
      · have hd : decide (m < D) = false := decide_eq_false hlt
        have hd' : decide ((m : Int) < (D : Int)) = false := decide_eq_false (by omega)
        obtain rfl : m = D := by omega
        obtain ⟨A8, c8, rfl, hz8⟩ := hO.is
        have HZ8 := Lib.hid hz8
        have hdl := depS_le l k m
        clear hO hP hS hdis hK hz8 hlt hm hg2
        go_wp2_with fail
        refine (Bt.rbytes_c A8 c8 (depS l k m) wr HZ8.out (by omega)).mono ?_
        rintro _ w5 ⟨rfl, hb5⟩
        rw [kc_bmL (Bt.ofK_byt _)]
        have hP5 := HPR.out.below hb5 HPR.out.lt
        obtain ⟨st, hP6⟩ := hP5.stBm HP1O.out (bmL (Bt.ofK (depS l k m))) (bmL_len _)
        have st' : Bt.stAr w5 (.pointer (some ⟨w1.heap.size, 66, none⟩)) (.agg (bA (bmL (Bt.ofK (depS l k m))))) = .ok .skip (w5.setCells w1.heap.size 66 ((bmL (Bt.ofK (depS l k m))).map bv)) := st
        obtain ⟨Z6, hZ6⟩ : ∃ Z, Z = w5.setCells w1.heap.size 66 ((bmL (Bt.ofK (depS l k m))).map bv) := ⟨_, rfl⟩
        rw [← hZ6] at st st' hP6
        have hP7 : PfAt Z6 w1.heap.size (prK n l k m) (.slice As (prK n l k m).sib.length cs) := hP6
        have hqo : (prK n l k m).Ok := prK_ok HSEP.out k
        have hB6 : Below X.heap.size X Z6 := by rw [hZ6]; exact below_setCells HGX.out _ _ _ (HBR.out.trans (hb5.mono HBR.out.size))
        have hR6 : PfAt Z6 (w.heap.size + 1) zPf (.slice none 0 0) := HRX.out.below hB6 HRX.out.lt
        have ld6 := hP7.ld hqo
        have st6 : stA 36 Z6 (.pointer (some ⟨w.heap.size + 1, 0, none⟩)) (.agg (pfC (prK n l k m) (.slice As (prK n l k m).sib.length cs))) = .ok .skip (Z6.setRow (w.heap.size + 1) (pfC (prK n l k m) (.slice As (prK n l k m).sib.length cs))) := stA_row hR6 (by rw [pfC_size hqo]; exact infoPf) (by rw [pfC_size hqo, pfC_size zPf_ok]) (pfC_one _ _ _ _)
        have HROW : Hid (PfAt (Z6.setRow (w.heap.size + 1) (pfC (prK n l k m) (.slice As (prK n l k m).sib.length cs))) (w.heap.size + 1) (prK n l k m) (.slice As (prK n l k m).sib.length cs)) := setRow_heap _ _ _ _ _ _ hR6
        have HDSF : Hid (DS (Z6.setRow (w.heap.size + 1) (pfC (prK n l k m) (.slice As (prK n l k m).sib.length cs))) As (prK n l k m).sib) := by
          have hxs : w.heap.size + 1 < X.heap.size := HRX.out.lt
          have h1 : OwnD w5 V.heap.size (.slice As (prK n l k m).sib.length cs) (prK n l k m).sib := HS2.out.below hb5
          have h2 : OwnD (Z6.setRow (w.heap.size + 1) (pfC (prK n l k m) (.slice As (prK n l k m).sib.length cs))) V.heap.size (.slice As (prK n l k m).sib.length cs) (prK n l k m).sib := row11_other h1 fun g cs' hg hh => by
            have hge := h1.ge g hg
            rw [setRow_other _ _ _ _ (by have := HGV.out; have := HGX.out; omega), hZ6]
            exact set_block (by have := HGV.out; omega) _ _ _ hh
          exact h2.dsA hqo.sib
        have HBF : Hid (Below w.heap.size w (Z6.setRow (w.heap.size + 1) (pfC (prK n l k m) (.slice As (prK n l k m).sib.length cs)))) := Bt.below_row (HB.out.trans (hB6.mono HB.out.size)) (by omega) _
        have HQO := Lib.hid hqo
        clear hb5 hP5 hP6 hP7 hqo hB6 hR6 hZ6
        go_wp2
        refine bodyPost_ret (v := .agg (pfC (prK n l k m) (.slice As (prK n l k m).sib.length cs))) ?_ rfl ⟨m, As, cs, by rw [HLL.out], ?_⟩
        · exact results_cell_row Tryz.results7 _ _ (w.heap.size + 1) 36 _ (0, 0) _ rfl HROW.out Tryz.underlying36 rfl (by rw [pfC_size HQO.out]; exact infoPf)
        · rw [← HLL.out]
          exact ⟨HDSF.out, HJ.out, HD1.out, HD2.out, HBF.out⟩
end Go.Proofs.YtbkokcfmndiedaaGreatDoor
