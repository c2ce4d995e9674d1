/- The walk of PutPairs over contracts. -/
import Derived.Test.YtmgablpnggoabaaDoorMV
import Derived.Test.YtmgablpnggoabaaDoorMT
import Derived.Test.YtmgablpnggoabaaDoorMR
namespace Go.Proofs.YtmgablpnggoabaaDoor
open Go.RowKit

theorem bsE9_f (f f' : Nat → UInt8) (A A' : Option Addr) (n n' c c' : Nat) (w : World) : bsE w 2 #[(0, .agg (((List.range 32).map f).map bv ++ [Value.slice A n c]).toArray), (1, .agg (((List.range 32).map f').map bv ++ [Value.slice A' n' c']).toArray)] =
    .ok (.value (.slice (some ⟨w.heap.size, 0, none⟩) 2 2)) (w.alloc (.cells ((((List.range 32).map f).map bv ++ [Value.slice A n c]) ++ (((List.range 32).map f').map bv ++ [Value.slice A' n' c'])).toArray 27)) := by kernel_rfl
theorem bsE9_two (x z : En) (hx : x.k.length = 32) (hz : z.k.length = 32) (w : World) : bsE w 2 #[(0, .agg (enC x).toArray), (1, .agg (enC z).toArray)] = .ok (.value (.slice (some ⟨w.heap.size, 0, none⟩) 2 2)) (w.alloc (.cells (enC x ++ enC z).toArray 27)) := by
  have := bsE9_f (fun j => x.k.getD j 0) (fun j => z.k.getD j 0) x.A z.A x.v.length z.v.length x.c z.c w
  rw [← list32 x.k hx, ← list32 z.k hz] at this
  exact this
theorem two_made (w : World) (x z : En) (hx : x.k.length = 32) (t : TypeId) : (w.alloc (.cells (enC x ++ enC z).toArray t)).rangeAt w.heap.size 0 (enC x) ∧ (w.alloc (.cells (enC x ++ enC z).toArray t)).rangeAt w.heap.size 33 (enC z) := by
  refine ⟨fun j v hv => ?_, fun j v hv => ?_⟩
  · rw [Nat.zero_add, cell_of_cells (heap_alloc_new w _), List.getElem?_toArray, List.getElem?_append_left (List.getElem?_eq_some_iff.1 hv).1]
    exact hv
  · rw [cell_of_cells (heap_alloc_new w _), List.getElem?_toArray, List.getElem?_append_right (by rw [enC_len hx]; omega), enC_len hx, show 33 + j - 33 = j by omega]
    exact hv
theorem two_ea (w : World) (x z : En) (hx : EnOk w x) (hz : EnOk w z) (t : TypeId) : EA (w.alloc (.cells (enC x ++ enC z).toArray t)) (some ⟨w.heap.size, 0, none⟩) [x, z] := fun i e hi => by
  have hb : Below w.heap.size w (w.alloc (.cells (enC x ++ enC z).toArray t)) := (Below.refl _ _).alloc (Nat.le_refl _) _
  obtain ⟨h1, h2⟩ := two_made w x z hx.key t
  match i, hi with
  | 0, hi => cases hi; exact ⟨hx.below hb, _, _, rfl, h1⟩
  | 1, hi => cases hi; exact ⟨hz.below hb, _, _, rfl, h2⟩
/-- The map of two entries with different keys. -/
theorem two_perm {x z : En} (h : x.k ≠ z.k) : ((ofE [x, z]).map En.ent).Perm [x.ent, z.ent] := by
  rw [ofE_ent]
  have h1 : (ofK [x.ent, z.ent]).Perm (z.ent :: rmK (putK [] x.ent) z.ent.k) := putK_perm _ _
  refine h1.trans ?_
  have h2 : rmK (putK [] x.ent) z.ent.k = [x.ent] := by
    have : x.ent.k ≠ z.ent.k := h
    simp [putK, rmK, insK, this]
  rw [h2]
  exact List.Perm.swap _ _ _
theorem pair_sep {x z : Ent} {d : Nat} (hx : x.k.length = 32) (hz : z.k.length = 32) (h : x.k ≠ z.k) (hd : d ≤ comK x.k z.k) : Sep (d : Int) [x, z] := by
  have hlt := com_lt hx hz h
  have hb := (com_bits (a := x.k) (b := z.k) (i := d) (by omega)).1 hd
  have key : ∀ i : Nat, (i : Int) < d → i < 256 → Bt.bit (keyF x.k) i = Bt.bit (keyF z.k) i := fun i hi h2 => by
    have h3 := hb i (by omega)
    rw [bitK_in x.k (by omega) (by omega), bitK_in z.k (by omega) (by omega), Int.toNat_natCast] at h3
    exact Int.ofNat.inj h3
  refine ⟨fun a ha => ?_, List.pairwise_cons.2 ⟨fun b hb => ?_, by simp⟩, fun a ha b hb i hi h2 => ?_⟩
  · rcases List.mem_cons.1 ha with rfl | ha
    · exact hx
    · rw [List.mem_singleton.1 ha]; exact hz
  · rw [List.mem_singleton.1 hb]; exact h
  · rcases List.mem_cons.1 ha with rfl | ha2 <;> rcases List.mem_cons.1 hb with rfl | hb2
    · rfl
    · rw [List.mem_singleton.1 hb2]; exact key i hi h2
    · rw [List.mem_singleton.1 ha2]; exact (key i hi h2).symm
    · rw [List.mem_singleton.1 ha2, List.mem_singleton.1 hb2]
/-- The digest of two leaves below depth d is the map's. -/
theorem pair_dig {x z : Ent} {m : List Ent} {d : Nat} (n : Int) (hx : x.k.length = 32) (hz : z.k.length = 32) (h : x.k ≠ z.k) (hd : d ≤ comK x.k z.k) (hp : m.Perm [x, z]) : digT n (growT (257 - d) [x, z] d) = rootK (257 - d) n m d := by
  have hlt := com_lt hx hz h
  have hs := pair_sep hx hz h hd
  have hs2 := hs.perm hp.symm
  rw [← growT_perm (257 - d) m [x, z] d hs2 (.inr ⟨by omega, by omega, by omega⟩) hp]
  exact (grow_both n (257 - d) m d hs2 (.inr ⟨by omega, by omega, by omega⟩)).2
theorem com_sym (a b : List UInt8) : comK a b = comK b a := Bt.common_comm (keyF b) (keyF a)
def dv (C k : Nat) : Nat := if k = 0 then 0 else if k = 1 then C / 2 else C
theorem dv_le (C k : Nat) : dv C k ≤ C := by
  unfold dv
  split
  · omega
  · split <;> omega
set_option maxHeartbeats 16000000 in
set_option maxRecDepth 100000 in
theorem pairs_in {M : World → Int → Tv → Prop} (nd : NdV M) (fv : FnV M) (pv : PtV M) (n : Int) (x z : En) (W : World) (hvx : Vars W) (h0 : 0 ≤ n) (h1 : n ≤ 256) (hx : EnOk W x) (hz : EnOk W z) (hxl : x.v.length ≤ 200) (hzl : z.v.length ≤ 200) (hne : x.k ≠ z.k) :
    Calls Tryd.prog 7 #[.int .i64 n, .agg (enC x).toArray, .agg (enC z).toArray] W (Aye W) := by
  obtain ⟨X1, hX1⟩ : ∃ X1, X1 = W.alloc (.cells (enC x).toArray 27) := ⟨_, rfl⟩
  obtain ⟨X, hX⟩ : ∃ X, X = X1.alloc (.cells (enC z).toArray 27) := ⟨_, rfl⟩
  have hb1 : Below W.heap.size W X1 := by rw [hX1]; exact (Below.refl _ _).alloc (Nat.le_refl _) _
  have hb2 : Below X1.heap.size X1 X := by rw [hX]; exact (Below.refl _ _).alloc (Nat.le_refl _) _
  have hb0 : Below W.heap.size W X := hb1.trans (hb2.mono hb1.size)
  have hs1 : X1.heap.size = W.heap.size + 1 := by rw [hX1]; simp
  have hrx : X.rangeAt W.heap.size 0 (enC x) := range_below (by rw [hX1]; exact ent_made W x _) hb2
  have hrz : X.rangeAt (W.heap.size + 1) 0 (enC z) := by rw [hX, ← hs1]; exact ent_made X1 z _
  have hsX : X.heap.size = W.heap.size + 1 + 1 := by rw [hX]; simp [hs1]
  have lvx := range_val hrx hx.key
  have lvz := range_val hrz hz.key
  have lkx := range_key hrx hx.key
  have lkz := range_key hrz hz.key
  have lex := range_ent hrx hx.key
  have lez := range_ent hrz hz.key
  rw [Nat.zero_add] at lvx lvz
  have e1 : decide (200 < (x.v.length : Int)) = false := decide_eq_false (by omega)
  have e2 : decide (200 < x.v.length) = false := decide_eq_false (by omega)
  have e3 : decide (200 < (z.v.length : Int)) = false := decide_eq_false (by omega)
  have e4 : decide (200 < z.v.length) = false := decide_eq_false (by omega)
  have ek : ∀ p q w, eqA .eql 24 p q w (.agg (bA x.k)) (.agg (bA z.k)) = .ok (.value (.bool false)) w := fun p q w => by rw [eqKey _ _ hx.key hz.key, decide_eq_false hne]
  have bs := bsE9_two x z hx.key hz.key
  have HX : Hid (X = (W.alloc (.cells (enC x).toArray 27)).alloc (.cells (enC z).toArray 27)) := by show _ = _; rw [hX, hX1]
  have HB0 := Lib.hid hb0
  have HRX := Lib.hid hrx
  have HRZ := Lib.hid hrz
  have HXO := Lib.hid (hx.below hb0)
  have HZO := Lib.hid (hz.below hb0)
  have HXL := Lib.hid hxl
  have HZL := Lib.hid hzl
  have HNE := Lib.hid hne
  have HVX := Lib.hid (hvx.below hb0)
  have HSX := Lib.hid hsX
  rw [hX, hX1] at lvx lvz lkx lkz lex lez
  clear hX1 hX hb1 hb2 hb0 hs1 hrx hrz hsX hx hz hxl hzl hne hvx
  go_enter Tryd.func7, Tryd.ntmps7
  go_wp2_with fail
  rw [← HX.out, ← HSX.out]
  obtain ⟨Y, hY⟩ : ∃ Y, Y = X.alloc (.cells (enC x ++ enC z).toArray 27) := ⟨_, rfl⟩
  have hbY : Below X.heap.size X Y := by rw [hY]; exact (Below.refl _ _).alloc (Nat.le_refl _) _
  have hea : EA Y (some ⟨X.heap.size, 0, none⟩) [x, z] := by rw [hY]; exact two_ea X x z HXO.out HZO.out _
  have hfew : fewK (([x, z] : List En).map En.ent) = true := few_yes (show 2 ≤ 12 by omega) fun j e hj he => by
    match j, he with
    | 0, he => cases he; exact HXL.out
    | 1, he => cases he; exact HZL.out
  have HBY := Lib.hid (HB0.out.trans (hbY.mono HB0.out.size))
  have HRX1 := Lib.hid (range_below HRX.out hbY)
  have HRZ1 := Lib.hid (range_below HRZ.out hbY)
  have HXY := Lib.hid (HXO.out.below hbY)
  have HZY := Lib.hid (HZO.out.below hbY)
  have HT := Lib.hid (tree_in nd n (some ⟨X.heap.size, 0, none⟩) 2 [x, z] Y hea (show 2 ≤ 12 by omega) (fun e he => by
    rcases List.mem_cons.1 he with rfl | he2
    · have := HXL.out; omega
    · rw [List.mem_singleton.1 he2]; have := HZL.out; omega) hfew (HVX.out.below hbY) h0 h1)
  rw [show ([x, z] : List En).length = 2 from rfl] at HT
  have HVE : Hid (∀ e ∈ ofE [x, z], e.v.length ≤ 1000) := fun e he => by
    rcases List.mem_cons.1 (ofE_mem he) with rfl | he2
    · have := HXL.out; omega
    · rw [List.mem_singleton.1 he2]; have := HZL.out; omega
  have HLE : Hid ((ofE [x, z]).length ≤ 2) := ofE_len [x, z]
  have HPM := Lib.hid (two_perm HNE.out)
  rw [← hY]
  clear hY hbY hea hfew lvx lvz lkx lkz lex lez e1 e2 e3 e4 ek bs HX
  refine HT.out.mono ?_
  rintro _ w2 ⟨A2, cO, T, rfl, hcO, hI, hF⟩
  have HF2 := Lib.hid hF
  have HBY2 := Lib.hid hF.bel
  obtain ⟨O, hO⟩ : ∃ O, O = ofE [x, z] := ⟨_, rfl⟩
  rw [← hO] at HF2 HVE HLE HPM ⊢
  obtain ⟨pT, hpT⟩ := val_ptr nd hF.ms
  rw [hpT]
  have HH := Lib.hid (hash_in n w2 h0 h1)
  clear hcO hI hF HT hO hpT
  go_wp2_with fail
  refine HH.out.mono ?_
  rintro _ w3 ⟨b, rfl, hbn, hH, hB⟩
  have HQ3 : Hid (Tf M Y n A2 O T b 0 w3) := ⟨HF2.out.below nd hB, ⟨0, Nat.le_refl _, hH⟩, Nat.le_trans HF2.out.bel.size hbn⟩
  have HHB := Lib.hid hH
  have HWB : Hid (W.heap.size + 1 < b) := by
    show _ < _
    have h1 := HSX.out
    have h2 := HBY.out.size
    have h3 := lt_of_cell (range_val HRZ1.out HZO.out.key)
    have h4 := HQ3.out.new
    have h5 : W.heap.size + 1 < Y.heap.size := h3
    omega
  clear hH hbn hB HH HF2 HBY2
  unfold ptr
  have L1 : Hid (∀ v, Keep (fun i => i = b) w3 v → ldA 27 v (.pointer (some ⟨W.heap.size, 0, none⟩)) = .ok (.value (.agg (enC x).toArray)) v) := fun v hv => range_ent (fun j z hz => hv.cellAt (range_below HRX1.out HQ3.out.fs.bel j z hz) (by have := HWB.out; show W.heap.size ≠ b; omega)) HXO.out.key
  have L2 : Hid (∀ v, Keep (fun i => i = b) w3 v → ldA 27 v (.pointer (some ⟨W.heap.size + 1, 0, none⟩)) = .ok (.value (.agg (enC z).toArray)) v) := fun v hv => range_ent (fun j z hz => hv.cellAt (range_below HRZ1.out HQ3.out.fs.bel j z hz) (by have := HWB.out; show W.heap.size + 1 ≠ b; omega)) HZO.out.key
  go_wp2_with fail
  refine region_heldT 7 (fun v => Keep (fun i => i = b) w3 v) (by kernel_rfl) ?_
  have hHeld : Keep (fun i => i = b) w3 w3.drew := (Keep.refl _ _).drew
  refine HeldT.take (i := 0) (oi := { dst := some 48, op := .move (.tmp 10), type := _, pos := _, after := _, guard := _ }) (v := ?_) rfl (by kernel_rfl) (by kernel_rfl) (by kernel_rfl) (by kernel_rfl) (fun _ _ _ h => h) (Or.inl ⟨by rfl, ?_⟩) (by assumption) ?_
  rotate_left 1
  · intro v hSv
    clear hSv
    go_simp
    try with_reducible rfl
  try simp only [Act.put, List.setIfInBounds_toArray, List.set_cons_zero, List.set_cons_succ]
  refine HeldT.take (i := 1) (oi := { dst := some 49, op := .load _ (.tmp 4), type := _, pos := _, after := _, guard := _ }) (v := ?_) rfl (by kernel_rfl) (by kernel_rfl) (by kernel_rfl) (by kernel_rfl) (fun _ _ _ h => h) (Or.inl ⟨by rfl, ?_⟩) (by assumption) ?_
  rotate_left 1
  · intro v hSv
    have hv1 := L1.out v hSv
    clear hSv
    go_simp
    try with_reducible rfl
  try simp only [Act.put, List.setIfInBounds_toArray, List.set_cons_zero, List.set_cons_succ]
  refine HeldT.take (i := 3) (oi := { dst := some 51, op := .move (.tmp 10), type := _, pos := _, after := _, guard := _ }) (v := ?_) rfl (by kernel_rfl) (by kernel_rfl) (by kernel_rfl) (by kernel_rfl) (fun _ _ _ h => h) (Or.inl ⟨by rfl, ?_⟩) (by assumption) ?_
  rotate_left 1
  · intro v hSv
    clear hSv
    go_simp
    try with_reducible rfl
  try simp only [Act.put, List.setIfInBounds_toArray, List.set_cons_zero, List.set_cons_succ]
  refine HeldT.take (i := 4) (oi := { dst := some 52, op := .load _ (.tmp 5), type := _, pos := _, after := _, guard := _ }) (v := ?_) rfl (by kernel_rfl) (by kernel_rfl) (by kernel_rfl) (by kernel_rfl) (fun _ _ _ h => h) (Or.inl ⟨by rfl, ?_⟩) (by assumption) ?_
  rotate_left 1
  · intro v hSv
    have hv1 := L2.out v hSv
    clear hSv
    go_simp
    try with_reducible rfl
  try simp only [Act.put, List.setIfInBounds_toArray, List.set_cons_zero, List.set_cons_succ]
  refine HeldT.one (i := 2) (o := { dst := some 50, op := .call _, type := _, pos := _, after := _, guard := _ }) (by kernel_rfl) rfl rfl (fun K hK => ?_)
  have HC := Lib.hid (nd.leaf w3.drew b n 0 x (HHB.out.keep (Keep.of_below (L := fun _ => False) ((Below.refl _ w3).drew)) fun h => h) (by decide) (HQ3.out.fs.vars.below ((Below.refl _ w3).drew)) ((HXY.out.below HQ3.out.fs.bel).below ((Below.refl _ w3).drew)) (by have := HXL.out; omega))
  unfold ptr at HC
  go_wp2_with fail
  refine HC.out.mono ?_
  rintro _ r1 ⟨v1, c1, rfl, hm1, hc1, hh1, hk1, _⟩
  obtain ⟨p1, hp1⟩ : ∃ p, v1 = .pointer p := val_ptr nd hm1
  subst hp1
  have hk1' : Keep (fun i => i = b) w3 r1 := (Keep.refl _ w3).drew.trans hk1
  have HM1 := Lib.hid hm1
  have HC1 := Lib.hid hc1
  have HH1 := Lib.hid hh1
  have HK1 := Lib.hid hk1'
  clear hm1 hc1 hh1 hk1 HC
  go_wp2_with fail
  refine hK.out _ _ (fun _ => hk1') (fun hS => ?_)
  have hHeld := hS (by decide)
  clear hS hK K
  try simp only [Act.put, List.setIfInBounds_toArray, List.set_cons_zero, List.set_cons_succ]
  clear hk1'
  refine HeldT.one (i := 5) (o := { dst := some 53, op := .call _, type := _, pos := _, after := _, guard := _ }) (by kernel_rfl) rfl rfl (fun K hK => ?_)
  have HC := Lib.hid (nd.leaf r1 b n c1 z HH1.out (by have := HC1.out; omega) (HQ3.out.fs.vars.hs HHB.out HK1.out) (HHB.out.ok (HZY.out.below HQ3.out.fs.bel) HK1.out) (by have := HZL.out; omega))
  unfold ptr at HC
  go_wp2_with fail
  refine HC.out.mono ?_
  rintro _ r2 ⟨v2, c2, rfl, hm2, hc2, hh2, hk2, _⟩
  obtain ⟨p2, hp2⟩ : ∃ p, v2 = .pointer p := val_ptr nd hm2
  subst hp2
  have hk2' : Keep (fun i => i = b) w3 r2 := HK1.out.trans hk2
  have HM2 := Lib.hid hm2
  have HM1' := Lib.hid (nd.hs HM1.out HH1.out hk2)
  have HC2 : Hid (c2 ≤ 4) := by show _ ≤ _; have := HC1.out; omega
  have HH2 := Lib.hid hh2
  have HK2 := Lib.hid hk2'
  clear hm2 hc2 hh2 hk2 HC HM1
  go_wp2_with fail
  refine hK.out _ _ (fun _ => hk2') (fun hS => ?_)
  have hHeld := hS (by decide)
  clear hS hK K
  try simp only [Act.put, List.setIfInBounds_toArray, List.set_cons_zero, List.set_cons_succ]
  clear hk2'
  refine HeldT.one (i := 6) (o := { dst := some 11, op := .assign _, type := _, pos := _, after := _, guard := _ }) (by kernel_rfl) rfl rfl (fun K hK => ?_)
  go_wp2_with fail
  refine hK.out _ _ (fun _ => hHeld) (fun hS => ?_)
  have hHeld := hS (by decide)
  clear hS hK K
  try simp only [Act.put, List.setIfInBounds_toArray, List.set_cons_zero, List.set_cons_succ]
  refine HeldT.one (i := 7) (o := { dst := some 12, op := .assign _, type := _, pos := _, after := _, guard := _ }) (by kernel_rfl) rfl rfl (fun K hK => ?_)
  go_wp2_with fail
  refine hK.out _ _ (fun h => absurd rfl h) (fun _ => ?_)
  clear hK K
  try simp only [Act.put, List.setIfInBounds_toArray, List.set_cons_zero, List.set_cons_succ]
  refine HeldT.done (by kernel_rfl) ?_ _
  clear hHeld HC1 HH1 HK1 L1 L2
  have L1 : Hid (∀ v, Below r2.heap.size r2 v → ldA 24 v (.pointer (some ⟨W.heap.size, 0, none⟩)) = .ok (.value (.agg (bA x.k))) v) := fun v hv => range_key (range_below (fun j z hz => HK2.out.cellAt (range_below HRX1.out HQ3.out.fs.bel j z hz) (by have := HWB.out; show W.heap.size ≠ b; omega)) hv) HXO.out.key
  have L2 : Hid (∀ v, Below r2.heap.size r2 v → ldA 24 v (.pointer (some ⟨W.heap.size + 1, 0, none⟩)) = .ok (.value (.agg (bA z.k))) v) := fun v hv => range_key (range_below (fun j z hz => HK2.out.cellAt (range_below HRZ1.out HQ3.out.fs.bel j z hz) (by have := HWB.out; show W.heap.size + 1 ≠ b; omega)) hv) HZO.out.key
  have HQ5 : Hid (Tf M Y n A2 O T b 4 r2) := HQ3.out.made nd HK2.out ⟨c2, HC2.out, HH2.out⟩
  obtain ⟨C, hC⟩ : ∃ C, C = comK x.k z.k := ⟨_, rfl⟩
  have HCM : Hid (∀ q, Calls Tryd.prog 21 #[.agg (bA x.k), .agg (bA z.k)] q fun e w' => e = .returned (.int .i64 (C : Int)) ∧ Below q.heap.size q w') := fun q => by
    show Calls _ _ _ _ _
    rw [hC]
    exact comK_c x.k z.k HXO.out.key HZO.out.key q
  have c0 : C ≤ 256 := by rw [hC]; exact Nat.le_of_lt (com_lt HXO.out.key HZO.out.key HNE.out)
  have HQU : Hid (IntKind.i64.wrap ((C : Int) / 2) = ((C / 2 : Nat) : Int)) := by show _ = _; rw [IntKind.wrap_i64]; omega
  have HCC := Lib.hid hC
  clear hC
  go_wp2_with fail
  refine wp_region_held_drew (S := fun w' => Below r2.heap.size r2 w') (by kernel_rfl) ((Below.refl _ _).drew) (fun hHeld => ?_)
  have hb0 : Below r2.heap.size r2 r2.drew := (Below.refl _ _).drew
  refine wpAnyH_take (i := 0) (oi := { dst := some 54, op := .fieldAddr _ (.tmp 4) 0, type := _, pos := _, after := _, guard := _ }) (v := ?_) rfl (by kernel_rfl) (by kernel_rfl) (by kernel_rfl) (fun _ _ _ h => h) (Or.inl ⟨by rfl, ?_⟩) (by assumption) ?_
  rotate_left 1
  · intro v hSv
    clear hSv
    go_simp
    try with_reducible rfl
  try simp only [Act.put, List.setIfInBounds_toArray, List.set_cons_zero, List.set_cons_succ]
  refine wpAnyH_take (i := 1) (oi := { dst := some 55, op := .load _ (.tmp 54), type := _, pos := _, after := _, guard := _ }) (v := ?_) rfl (by kernel_rfl) (by kernel_rfl) (by kernel_rfl) (fun _ _ _ h => h) (Or.inl ⟨by rfl, ?_⟩) (by assumption) ?_
  rotate_left 1
  · intro v hSv
    have hv1 := L1.out v hSv
    clear hSv
    go_simp
    try with_reducible rfl
  try simp only [Act.put, List.setIfInBounds_toArray, List.set_cons_zero, List.set_cons_succ]
  refine wpAnyH_take (i := 2) (oi := { dst := some 56, op := .fieldAddr _ (.tmp 5) 0, type := _, pos := _, after := _, guard := _ }) (v := ?_) rfl (by kernel_rfl) (by kernel_rfl) (by kernel_rfl) (fun _ _ _ h => h) (Or.inl ⟨by rfl, ?_⟩) (by assumption) ?_
  rotate_left 1
  · intro v hSv
    clear hSv
    go_simp
    try with_reducible rfl
  try simp only [Act.put, List.setIfInBounds_toArray, List.set_cons_zero, List.set_cons_succ]
  refine wpAnyH_take (i := 3) (oi := { dst := some 57, op := .load _ (.tmp 56), type := _, pos := _, after := _, guard := _ }) (v := ?_) rfl (by kernel_rfl) (by kernel_rfl) (by kernel_rfl) (fun _ _ _ h => h) (Or.inl ⟨by rfl, ?_⟩) (by assumption) ?_
  rotate_left 1
  · intro v hSv
    have hv1 := L2.out v hSv
    clear hSv
    go_simp
    try with_reducible rfl
  try simp only [Act.put, List.setIfInBounds_toArray, List.set_cons_zero, List.set_cons_succ]
  refine wpAnyH_take (i := 6) (oi := { dst := some 60, op := .fieldAddr _ (.tmp 4) 0, type := _, pos := _, after := _, guard := _ }) (v := ?_) rfl (by kernel_rfl) (by kernel_rfl) (by kernel_rfl) (fun _ _ _ h => h) (Or.inl ⟨by rfl, ?_⟩) (by assumption) ?_
  rotate_left 1
  · intro v hSv
    clear hSv
    go_simp
    try with_reducible rfl
  try simp only [Act.put, List.setIfInBounds_toArray, List.set_cons_zero, List.set_cons_succ]
  refine wpAnyH_take (i := 7) (oi := { dst := some 61, op := .load _ (.tmp 60), type := _, pos := _, after := _, guard := _ }) (v := ?_) rfl (by kernel_rfl) (by kernel_rfl) (by kernel_rfl) (fun _ _ _ h => h) (Or.inl ⟨by rfl, ?_⟩) (by assumption) ?_
  rotate_left 1
  · intro v hSv
    have hv1 := L1.out v hSv
    clear hSv
    go_simp
    try with_reducible rfl
  try simp only [Act.put, List.setIfInBounds_toArray, List.set_cons_zero, List.set_cons_succ]
  refine wpAnyH_take (i := 8) (oi := { dst := some 62, op := .fieldAddr _ (.tmp 5) 0, type := _, pos := _, after := _, guard := _ }) (v := ?_) rfl (by kernel_rfl) (by kernel_rfl) (by kernel_rfl) (fun _ _ _ h => h) (Or.inl ⟨by rfl, ?_⟩) (by assumption) ?_
  rotate_left 1
  · intro v hSv
    clear hSv
    go_simp
    try with_reducible rfl
  try simp only [Act.put, List.setIfInBounds_toArray, List.set_cons_zero, List.set_cons_succ]
  refine wpAnyH_take (i := 9) (oi := { dst := some 63, op := .load _ (.tmp 62), type := _, pos := _, after := _, guard := _ }) (v := ?_) rfl (by kernel_rfl) (by kernel_rfl) (by kernel_rfl) (fun _ _ _ h => h) (Or.inl ⟨by rfl, ?_⟩) (by assumption) ?_
  rotate_left 1
  · intro v hSv
    have hv1 := L2.out v hSv
    clear hSv
    go_simp
    try with_reducible rfl
  try simp only [Act.put, List.setIfInBounds_toArray, List.set_cons_zero, List.set_cons_succ]
  refine wpAnyH_take (i := 13) (oi := { dst := some 67, op := .move (.const (.int .i64 0)), type := _, pos := _, after := _, guard := _ }) (v := ?_) rfl (by kernel_rfl) (by kernel_rfl) (by kernel_rfl) (fun _ _ _ h => h) (Or.inl ⟨by rfl, ?_⟩) (by assumption) ?_
  rotate_left 1
  · intro v hSv
    clear hSv
    go_simp
    try with_reducible rfl
  try simp only [Act.put, List.setIfInBounds_toArray, List.set_cons_zero, List.set_cons_succ]
  refine wpAnyH_ready (rs := [4]) (by kernel_rfl) (by simp) ?_
  refine AllReadyH.cons (o := { dst := some 58, op := .call _, type := _, pos := _, after := _, guard := _ }) rfl (fun K hK => ?_) AllReadyH.nil
  go_simp
  refine (HCM.out r2.drew).mono ?_
  rintro e y1 ⟨rfl, hb⟩
  have hb1 : Below r2.heap.size r2 y1 := (hb0).trans (hb.mono (hb0).size)
  clear hb
  go_wp2_with fail
  refine hK.out _ _ (hb1) (fun hHeld => ?_)
  clear hK K
  try simp only [Act.put, List.setIfInBounds_toArray, List.set_cons_zero, List.set_cons_succ]
  refine wpAnyH_take (i := 5) (oi := { dst := some 59, op := .binOp .quo _ (.tmp 58) (.const (.int .i64 2)) _, type := _, pos := _, after := _, guard := _ }) (v := ?_) rfl (by kernel_rfl) (by kernel_rfl) (by kernel_rfl) (fun _ _ _ h => h) (Or.inl ⟨by rfl, ?_⟩) (by assumption) ?_
  rotate_left 1
  · intro v hSv
    clear hSv
    go_simp
    try with_reducible rfl
  try simp only [Act.put, List.setIfInBounds_toArray, List.set_cons_zero, List.set_cons_succ]
  refine wpAnyH_ready (rs := [10]) (by kernel_rfl) (by simp) ?_
  refine AllReadyH.cons (o := { dst := some 64, op := .call _, type := _, pos := _, after := _, guard := _ }) rfl (fun K hK => ?_) AllReadyH.nil
  go_simp
  refine (HCM.out y1).mono ?_
  rintro e y2 ⟨rfl, hb⟩
  have hb2 : Below r2.heap.size r2 y2 := (hb1).trans (hb.mono (hb1).size)
  clear hb
  go_wp2_with fail
  refine hK.out _ _ (hb2) (fun hHeld => ?_)
  clear hK K
  try simp only [Act.put, List.setIfInBounds_toArray, List.set_cons_zero, List.set_cons_succ]
  refine wpAnyH_ready (rs := [11]) (by kernel_rfl) (by simp) ?_
  refine AllReadyH.cons (o := { dst := some 65, op := .buildSlice _ _ _, type := _, pos := _, after := _, guard := _ }) rfl (fun K hK => ?_) AllReadyH.nil
  go_simp
  refine hK.out _ _ ((hb2).alloc (hb2).size _) (fun hHeld => ?_)
  clear hK K
  try simp only [Act.put, List.setIfInBounds_toArray, List.set_cons_zero, List.set_cons_succ]
  refine wpAnyH_take (i := 12) (oi := { dst := some 66, op := .call _, type := _, pos := _, after := _, guard := _ }) (v := ?_) rfl (by kernel_rfl) (by kernel_rfl) (by kernel_rfl) (fun _ _ _ h => h) (Or.inl ⟨by rfl, ?_⟩) (by assumption) ?_
  rotate_left 1
  · intro v hSv
    clear hSv
    go_simp
    try with_reducible rfl
  try simp only [Act.put, List.setIfInBounds_toArray, List.set_cons_zero, List.set_cons_succ]
  refine wpAnyH_done (by kernel_rfl) ?_ _
  rw [HQU.out]
  clear HCM L1 L2
  obtain ⟨D, hD⟩ : ∃ D, D = y2.alloc (.cells #[.int .i64 0, .int .i64 ((C / 2 : Nat) : Int), .int .i64 (C : Int)] 3) := ⟨_, rfl⟩
  have hBD : Below r2.heap.size r2 D := by rw [hD]; exact hb2.alloc hb2.size _
  have hrD : D.heap[y2.heap.size]? = some (.cells #[.int .i64 0, .int .i64 ((C / 2 : Nat) : Int), .int .i64 (C : Int)] 3 (0, 0)) := by rw [hD]; exact heap_alloc_new y2 _
  have hsz : r2.heap.size ≤ y2.heap.size := hb2.size
  rw [← hD]
  obtain ⟨s, hs⟩ : ∃ s, s = y2.heap.size := ⟨_, rfl⟩
  rw [← hs] at hrD hsz ⊢
  have HBD := Lib.hid hBD
  have HRD := Lib.hid hrD
  have HSZ := Lib.hid hsz
  have HBR : Hid (b < r2.heap.size) := lt_of_heap HH2.out
  have HQ6 := Lib.hid (HQ5.out.below nd hBD)
  have HC0 := Lib.hid c0
  have HKD : Hid (Keep (fun i => i = b) r2 D) := Keep.of_below hBD
  clear hD hBD hrD hsz hs hb1 hb2 hb0 hHeld c0
  go_wp2_with fail
  go_loopg [67] 3 (fun gg i wr => ∃ k : Nat, i = .int .i64 (k : Int) ∧ k ≤ 3 ∧ 3 - k = gg ∧ Hid (Tf M Y n A2 O T b (4 + 2010 * k) wr ∧ Keep (fun i => i = b) D wr))
  case atStart => exact ⟨0, rfl, by omega, by omega, HQ6.out, Keep.refl _ _⟩
  case round =>
    obtain ⟨k, rfl, hk, rfl, HR⟩ := hrel
    obtain ⟨hQ, hKw⟩ := HR.out
    by_cases hlt : k < 3
    · have hd : decide (k < 3) = true := decide_eq_true hlt
      have hd2 : decide ((k : Int) < 3) = true := decide_eq_true (by omega)
      obtain ⟨d, hdd⟩ : ∃ d, d = dv C k := ⟨_, rfl⟩
      have HDC : Hid (d ≤ comK x.k z.k) := by show _ ≤ _; rw [hdd, ← HCC.out]; exact dv_le C k
      have lc : wr.cell? ⟨s, k, none⟩ = some (.int .i64 (d : Int)) := by
        have h1 : D.cell? ⟨s, k, none⟩ = some (.int .i64 (d : Int)) := by
          rw [cell_of_cells HRD.out, hdd]
          match k, hlt with
          | 0, _ => rfl
          | 1, _ => rfl
          | 2, _ => rfl
        exact hKw.cellAt h1 (by have := HSZ.out; have := HBR.out; show s ≠ b; omega)
      have p0 : (0 : Int) ≤ (k : Int) := by omega
      have p1 : (k : Int) < 3 := by omega
      have d256 : d ≤ 256 := by rw [hdd]; exact Nat.le_trans (dv_le C k) HC0.out
      obtain ⟨g, hg⟩ : ∃ g, g = rootK (257 - d) n (O.map En.ent) (d : Int) := ⟨_, rfl⟩
      have hgl : g.length = 32 := by rw [hg]; exact rootK_len _ _ _ _
      have HRT := Lib.hid (root7_c n (257 - d) A2 cO O (d : Int) wr hQ.fs.ea (by have := HLE.out; omega) HVE.out (.inr ⟨by omega, by omega, by omega⟩))
      rw [← hg] at HRT
      have HGG := Lib.hid hg
      have st : ∀ w : World, stA 44 (w.alloc (.cells (bA z26) 44)) (.pointer (some ⟨w.heap.size, 0, none⟩)) (.agg (bA g)) = .ok .skip (w.alloc (.cells (bA g) 44)) := fun w =>
        stA_new (t := 44) w (bA z26) (bA g) (by rw [bA_size, hgl]; exact info26) (by rw [bA_size, bA_size, hgl]; rfl) (bA_one _)
      have HQW := Lib.hid hQ
      have HKW := Lib.hid hKw
      clear hdd hg hQ hKw HR d256
      go_wp2_with fail
      refine HRT.out.mono ?_
      rintro _ w5 ⟨rfl, hB5⟩
      have HB5 := Lib.hid hB5
      clear hB5 HRT lc p0 p1
      obtain ⟨V, hV⟩ : ∃ V, V = w5.alloc (.cells (bA g) 44) := ⟨_, rfl⟩
      have hBV : Below wr.heap.size wr V := by rw [hV]; exact HB5.out.alloc HB5.out.size _
      have hrV : RowB V w5.heap.size 44 g := by rw [hV]; exact RowB.alloc w5 g _
      have HKV : Hid (Keep (fun i => i = b) r2 V) := (HKD.out.trans HKW.out).trans (Keep.of_below hBV)
      have HRV := Lib.hid hrV
      have HBV := Lib.hid hBV
      have HQV := Lib.hid (HQW.out.below nd hBV)
      have HV := Lib.hid hV
      clear hBV hrV hV
      go_wp2_with fail
      rw [← HV.out]
      clear HV st
      obtain ⟨m0, hm0, hhV⟩ := HQV.out.hs
      have HHD : Hid (Hs V.drew b n m0) := hhV
      have HM0 := Lib.hid hm0
      have HMB : Hid (m0 ≤ 100000) := by show _ ≤ _; omega
      clear hm0 hhV
      have nq : ∀ x y w, eqA .neq 44 x y w (.agg (bA g)) (.agg (bA g)) = .ok (.value (.bool false)) w := fun x y w => by rw [neDig g g hgl hgl, decide_eq_true rfl]; rfl
      have LW : Hid (∀ q, Keep (fun i => i = b) V q → ldA 44 q (.pointer (some ⟨w5.heap.size, 0, none⟩)) = .ok (.value (.agg (bA g))) q) := fun q hq => by
        have h1 : w5.heap.size ≠ b := by have := HB5.out.size; have := HKW.out.size; have := HBD.out.size; have := HBR.out; omega
        have h2 : RowB q w5.heap.size 44 g := hq.heap HRV.out h1
        exact ldA_row (t' := 44) (fr := (0, 0)) h2 Tryd.underlying44 (by rw [bA_size, hgl]; exact info26)
      have HP1 : Hid (∀ q m, Keep (fun i => i = b) V q → Hs q b n m → m ≤ 150000 → Calls Tryd.prog 26 #[.pointer (some ⟨b, 0, none⟩), .pointer p1, .pointer p2, .int .i64 (d : Int)] q fun e w' => ∃ (T' : Tv) (p' : Option Addr) (m' : Nat), e = .returned (.pointer p') ∧ T'.val = .pointer p' ∧ digT n T'.tr = g ∧ M w' n T' ∧ m' ≤ m + 1000 ∧ Hs w' b n m' ∧ Keep (fun i => i = b) q w') := fun q m hq hh hm => by
        have hk := HKV.out.trans hq
        refine (pv.pair q b n m d (.pointer p1) (.pointer p2) x.ent z.ent hh (by omega) (HQ5.out.fs.vars.hs HH2.out hk) (nd.hs HM1'.out HH2.out hk) (nd.hs HM2.out HH2.out hk) (fun h => HNE.out h) (by exact HDC.out)).mono fun e w' ⟨T', c', h1, h2, h3, h4, h5, h6⟩ => ?_
        obtain ⟨p', hp'⟩ := val_ptr nd h3
        exact ⟨T', p', c', by rw [h1, hp'], hp', by rw [h2, HGG.out]; exact pair_dig n HXO.out.key HZO.out.key (fun h => HNE.out h) (by exact HDC.out) HPM.out, h3, h4, h5, h6⟩
      have HP2 : Hid (∀ q m, Keep (fun i => i = b) V q → Hs q b n m → m ≤ 150000 → Calls Tryd.prog 26 #[.pointer (some ⟨b, 0, none⟩), .pointer p2, .pointer p1, .int .i64 (d : Int)] q fun e w' => ∃ (T' : Tv) (p' : Option Addr) (m' : Nat), e = .returned (.pointer p') ∧ T'.val = .pointer p' ∧ digT n T'.tr = g ∧ M w' n T' ∧ m' ≤ m + 1000 ∧ Hs w' b n m' ∧ Keep (fun i => i = b) q w') := fun q m hq hh hm => by
        have hk := HKV.out.trans hq
        refine (pv.pair q b n m d (.pointer p2) (.pointer p1) z.ent x.ent hh (by omega) (HQ5.out.fs.vars.hs HH2.out hk) (nd.hs HM2.out HH2.out hk) (nd.hs HM1'.out HH2.out hk) (fun h => HNE.out h.symm) (by rw [com_sym]; exact HDC.out)).mono fun e w' ⟨T', c', h1, h2, h3, h4, h5, h6⟩ => ?_
        obtain ⟨p', hp'⟩ := val_ptr nd h3
        exact ⟨T', p', c', by rw [h1, hp'], hp', by rw [h2, HGG.out]; exact pair_dig n HZO.out.key HXO.out.key (fun h => HNE.out h.symm) (by rw [com_sym]; exact HDC.out) (HPM.out.trans (List.Perm.swap _ _ _)), h3, h4, h5, h6⟩
      have HDG : Hid (∀ q m (T' : Tv) (p' : Option Addr), Keep (fun i => i = b) V q → Hs q b n m → m ≤ 1000000 → M q n T' → T'.val = .pointer p' → digT n T'.tr = g → Calls Tryd.prog 19 #[.pointer (some ⟨b, 0, none⟩), .pointer p'] q fun e w' => ∃ m', e = .returned (.agg (bA g)) ∧ m' ≤ m + 1 ∧ Hs w' b n m' ∧ Keep (fun i => i = b) q w') := fun q m T' p' hq hh hm hM hp' hg' => by
        have := nd.digest q b n m T' hh hm (HQ5.out.fs.vars.hs HH2.out (HKV.out.trans hq)) hM
        rw [hp', hg'] at this
        exact this.mono fun e w' ⟨m', h1, h2, _, h3, h4⟩ => ⟨m', h1, h2, h3, h4⟩
      refine wp_region_held_drew (S := fun w' => Keep (fun i => i = b) V w') (by kernel_rfl) ((Keep.refl _ _).drew) (fun hHeld => ?_)
      have hb0 : Keep (fun i => i = b) V V.drew := (Keep.refl _ _).drew
      refine wpAnyH_take (i := 0) (oi := { dst := some 75, op := .move (.tmp 10), type := _, pos := _, after := _, guard := _ }) (v := ?_) rfl (by kernel_rfl) (by kernel_rfl) (by kernel_rfl) (fun _ _ _ h => h) (Or.inl ⟨by rfl, ?_⟩) (by assumption) ?_
      rotate_left 1
      · intro v hSv
        clear hSv
        go_simp
        try with_reducible rfl
      try simp only [Act.put, List.setIfInBounds_toArray, List.set_cons_zero, List.set_cons_succ]
      refine wpAnyH_take (i := 1) (oi := { dst := some 76, op := .move (.tmp 10), type := _, pos := _, after := _, guard := _ }) (v := ?_) rfl (by kernel_rfl) (by kernel_rfl) (by kernel_rfl) (fun _ _ _ h => h) (Or.inl ⟨by rfl, ?_⟩) (by assumption) ?_
      rotate_left 1
      · intro v hSv
        clear hSv
        go_simp
        try with_reducible rfl
      try simp only [Act.put, List.setIfInBounds_toArray, List.set_cons_zero, List.set_cons_succ]
      refine wpAnyH_take (i := 2) (oi := { dst := some 77, op := .move (.tmp 11), type := _, pos := _, after := _, guard := _ }) (v := ?_) rfl (by kernel_rfl) (by kernel_rfl) (by kernel_rfl) (fun _ _ _ h => h) (Or.inl ⟨by rfl, ?_⟩) (by assumption) ?_
      rotate_left 1
      · intro v hSv
        clear hSv
        go_simp
        try with_reducible rfl
      try simp only [Act.put, List.setIfInBounds_toArray, List.set_cons_zero, List.set_cons_succ]
      refine wpAnyH_take (i := 3) (oi := { dst := some 78, op := .move (.tmp 12), type := _, pos := _, after := _, guard := _ }) (v := ?_) rfl (by kernel_rfl) (by kernel_rfl) (by kernel_rfl) (fun _ _ _ h => h) (Or.inl ⟨by rfl, ?_⟩) (by assumption) ?_
      rotate_left 1
      · intro v hSv
        clear hSv
        go_simp
        try with_reducible rfl
      try simp only [Act.put, List.setIfInBounds_toArray, List.set_cons_zero, List.set_cons_succ]
      refine wpAnyH_take (i := 4) (oi := { dst := some 79, op := .move (.tmp 14), type := _, pos := _, after := _, guard := _ }) (v := ?_) rfl (by kernel_rfl) (by kernel_rfl) (by kernel_rfl) (fun _ _ _ h => h) (Or.inl ⟨by rfl, ?_⟩) (by assumption) ?_
      rotate_left 1
      · intro v hSv
        clear hSv
        go_simp
        try with_reducible rfl
      try simp only [Act.put, List.setIfInBounds_toArray, List.set_cons_zero, List.set_cons_succ]
      refine wpAnyH_take (i := 7) (oi := { dst := some 82, op := .load _ (.tmp 15), type := _, pos := _, after := _, guard := _ }) (v := ?_) rfl (by kernel_rfl) (by kernel_rfl) (by kernel_rfl) (fun _ _ _ h => h) (Or.inl ⟨by rfl, ?_⟩) (by assumption) ?_
      rotate_left 1
      · intro v hSv
        have hv1 := LW.out v hSv
        clear hSv
        go_simp
        try with_reducible rfl
      try simp only [Act.put, List.setIfInBounds_toArray, List.set_cons_zero, List.set_cons_succ]
      refine wpAnyH_ready (rs := [5]) (by kernel_rfl) (by simp) ?_
      refine AllReadyH.cons (o := { dst := some 80, op := .call _, type := _, pos := _, after := _, guard := _ }) rfl (fun K hK => ?_) AllReadyH.nil
      go_simp
      refine (HP1.out V.drew m0 (hb0) HHD.out (by have := HMB.out; omega)).mono ?_
      rintro e y1 ⟨T1, q1, m1, rfl, hv1, hg1, hM1, hm1, hh1, hb⟩
      have hb1 : Keep (fun i => i = b) V y1 := (hb0).trans hb
      have HV1 := Lib.hid hv1
      have HG1 := Lib.hid hg1
      have HT1 := Lib.hid hM1
      have HL1 := Lib.hid hm1
      have HS1 := Lib.hid hh1
      clear hv1 hg1 hM1 hm1 hh1
      clear hb
      go_wp2_with fail
      refine hK.out _ _ (hb1) (fun hHeld => ?_)
      clear hK K
      try simp only [Act.put, List.setIfInBounds_toArray, List.set_cons_zero, List.set_cons_succ]
      refine wpAnyH_ready (rs := [6]) (by kernel_rfl) (by simp) ?_
      refine AllReadyH.cons (o := { dst := some 81, op := .call _, type := _, pos := _, after := _, guard := _ }) rfl (fun K hK => ?_) AllReadyH.nil
      go_simp
      refine (HDG.out y1 m1 T1 q1 (hb1) HS1.out (by have := HL1.out; have := HMB.out; omega) HT1.out HV1.out HG1.out).mono ?_
      rintro e y2 ⟨m2, rfl, hm2, hh2, hb⟩
      have hb2 : Keep (fun i => i = b) V y2 := (hb1).trans hb
      have HL2 := Lib.hid hm2
      have HS2 := Lib.hid hh2
      clear hm2 hh2 HT1 HV1 HG1 HS1
      clear hb
      go_wp2_with fail
      refine hK.out _ _ (hb2) (fun hHeld => ?_)
      clear hK K
      try simp only [Act.put, List.setIfInBounds_toArray, List.set_cons_zero, List.set_cons_succ]
      refine wpAnyH_take (i := 8) (oi := { dst := some 83, op := .binOp .neq _ (.tmp 81) (.tmp 82) _, type := _, pos := _, after := _, guard := _ }) (v := ?_) rfl (by kernel_rfl) (by kernel_rfl) (by kernel_rfl) (fun _ _ _ h => h) (Or.inl ⟨by rfl, ?_⟩) (by assumption) ?_
      rotate_left 1
      · intro v hSv
        have hv1 := fun x y => nq x y v
        clear hSv
        go_simp
        try with_reducible rfl
      try simp only [Act.put, List.setIfInBounds_toArray, List.set_cons_zero, List.set_cons_succ]
      refine wpAnyH_take (i := 9) (oi := { dst := some 84, op := .move (.tmp 83), type := _, pos := _, after := _, guard := _ }) (v := ?_) rfl (by kernel_rfl) (by kernel_rfl) (by kernel_rfl) (fun _ _ _ h => h) (Or.inl ⟨by rfl, ?_⟩) (by assumption) ?_
      rotate_left 1
      · intro v hSv
        clear hSv
        go_simp
        try with_reducible rfl
      try simp only [Act.put, List.setIfInBounds_toArray, List.set_cons_zero, List.set_cons_succ]
      refine wpAnyH_take (i := 10) (oi := { dst := some 85, op := .move (.tmp 10), type := _, pos := _, after := _, guard := _ }) (v := ?_) rfl (by kernel_rfl) (by kernel_rfl) (by kernel_rfl) (fun _ _ _ h => h) (Or.inl ⟨by rfl, ?_⟩) (by assumption) ?_
      rotate_left 1
      · intro v hSv
        clear hSv
        go_simp
        try with_reducible rfl
      try simp only [Act.put, List.setIfInBounds_toArray, List.set_cons_zero, List.set_cons_succ]
      refine wpAnyH_take (i := 11) (oi := { dst := some 86, op := .move (.tmp 10), type := _, pos := _, after := _, guard := _ }) (v := ?_) rfl (by kernel_rfl) (by kernel_rfl) (by kernel_rfl) (fun _ _ _ h => h) (Or.inl ⟨by rfl, ?_⟩) (by assumption) ?_
      rotate_left 1
      · intro v hSv
        clear hSv
        go_simp
        try with_reducible rfl
      try simp only [Act.put, List.setIfInBounds_toArray, List.set_cons_zero, List.set_cons_succ]
      refine wpAnyH_take (i := 12) (oi := { dst := some 87, op := .move (.tmp 12), type := _, pos := _, after := _, guard := _ }) (v := ?_) rfl (by kernel_rfl) (by kernel_rfl) (by kernel_rfl) (fun _ _ _ h => h) (Or.inl ⟨by rfl, ?_⟩) (by assumption) ?_
      rotate_left 1
      · intro v hSv
        clear hSv
        go_simp
        try with_reducible rfl
      try simp only [Act.put, List.setIfInBounds_toArray, List.set_cons_zero, List.set_cons_succ]
      refine wpAnyH_take (i := 13) (oi := { dst := some 88, op := .move (.tmp 11), type := _, pos := _, after := _, guard := _ }) (v := ?_) rfl (by kernel_rfl) (by kernel_rfl) (by kernel_rfl) (fun _ _ _ h => h) (Or.inl ⟨by rfl, ?_⟩) (by assumption) ?_
      rotate_left 1
      · intro v hSv
        clear hSv
        go_simp
        try with_reducible rfl
      try simp only [Act.put, List.setIfInBounds_toArray, List.set_cons_zero, List.set_cons_succ]
      refine wpAnyH_take (i := 14) (oi := { dst := some 89, op := .move (.tmp 14), type := _, pos := _, after := _, guard := _ }) (v := ?_) rfl (by kernel_rfl) (by kernel_rfl) (by kernel_rfl) (fun _ _ _ h => h) (Or.inl ⟨by rfl, ?_⟩) (by assumption) ?_
      rotate_left 1
      · intro v hSv
        clear hSv
        go_simp
        try with_reducible rfl
      try simp only [Act.put, List.setIfInBounds_toArray, List.set_cons_zero, List.set_cons_succ]
      refine wpAnyH_take (i := 17) (oi := { dst := some 92, op := .load _ (.tmp 15), type := _, pos := _, after := _, guard := _ }) (v := ?_) rfl (by kernel_rfl) (by kernel_rfl) (by kernel_rfl) (fun _ _ _ h => h) (Or.inl ⟨by rfl, ?_⟩) (by assumption) ?_
      rotate_left 1
      · intro v hSv
        have hv1 := LW.out v hSv
        clear hSv
        go_simp
        try with_reducible rfl
      try simp only [Act.put, List.setIfInBounds_toArray, List.set_cons_zero, List.set_cons_succ]
      refine wpAnyH_ready (rs := [15]) (by kernel_rfl) (by simp) ?_
      refine AllReadyH.cons (o := { dst := some 90, op := .call _, type := _, pos := _, after := _, guard := _ }) rfl (fun K hK => ?_) AllReadyH.nil
      go_simp
      refine (HP2.out y2 m2 (hb2) HS2.out (by have := HL1.out; have := HL2.out; have := HMB.out; omega)).mono ?_
      rintro e y3 ⟨T3, q3, m3, rfl, hv3, hg3, hM3, hm3, hh3, hb⟩
      have hb3 : Keep (fun i => i = b) V y3 := (hb2).trans hb
      have HV3 := Lib.hid hv3
      have HG3 := Lib.hid hg3
      have HT3 := Lib.hid hM3
      have HL3 := Lib.hid hm3
      have HS3 := Lib.hid hh3
      clear hv3 hg3 hM3 hm3 hh3 HS2
      clear hb
      go_wp2_with fail
      refine hK.out _ _ (hb3) (fun hHeld => ?_)
      clear hK K
      try simp only [Act.put, List.setIfInBounds_toArray, List.set_cons_zero, List.set_cons_succ]
      refine wpAnyH_ready (rs := [16]) (by kernel_rfl) (by simp) ?_
      refine AllReadyH.cons (o := { dst := some 91, op := .call _, type := _, pos := _, after := _, guard := _ }) rfl (fun K hK => ?_) AllReadyH.nil
      go_simp
      refine (HDG.out y3 m3 T3 q3 (hb3) HS3.out (by have := HL1.out; have := HL2.out; have := HL3.out; have := HMB.out; omega) HT3.out HV3.out HG3.out).mono ?_
      rintro e y4 ⟨m4, rfl, hm4, hh4, hb⟩
      have hb4 : Keep (fun i => i = b) V y4 := (hb3).trans hb
      have HL4 := Lib.hid hm4
      have HS4 := Lib.hid hh4
      clear hm4 hh4 HT3 HV3 HG3 HS3
      clear hb
      go_wp2_with fail
      refine hK.out _ _ (hb4) (fun hHeld => ?_)
      clear hK K
      try simp only [Act.put, List.setIfInBounds_toArray, List.set_cons_zero, List.set_cons_succ]
      refine wpAnyH_take (i := 18) (oi := { dst := some 93, op := .binOp .neq _ (.tmp 91) (.tmp 92) _, type := _, pos := _, after := _, guard := _ }) (v := ?_) rfl (by kernel_rfl) (by kernel_rfl) (by kernel_rfl) (fun _ _ _ h => h) (Or.inl ⟨by rfl, ?_⟩) (by assumption) ?_
      rotate_left 1
      · intro v hSv
        have hv1 := fun x y => nq x y v
        clear hSv
        go_simp
        try with_reducible rfl
      try simp only [Act.put, List.setIfInBounds_toArray, List.set_cons_zero, List.set_cons_succ]
      refine wpAnyH_take (i := 19) (oi := { dst := some 94, op := .pick (.tmp 84) (.const (.bool true)) (.tmp 93), type := _, pos := _, after := _, guard := _ }) (v := ?_) rfl (by kernel_rfl) (by kernel_rfl) (by kernel_rfl) (fun _ _ _ h => h) (Or.inl ⟨by rfl, ?_⟩) (by assumption) ?_
      rotate_left 1
      · intro v hSv
        clear hSv
        go_simp
        try with_reducible rfl
      try simp only [Act.put, List.setIfInBounds_toArray, List.set_cons_zero, List.set_cons_succ]
      refine wpAnyH_done (by kernel_rfl) ?_ _
      have HKF := Lib.hid (hb4)
      clear LW HP1 HP2 HDG HHD nq
      go_wp2_with fail
      have HF : Hid (Tf M Y n A2 O T b (4 + 2010 * (k + 1)) y4 ∧ Keep (fun i => i = b) D y4) :=
        ⟨HQV.out.made nd HKF.out ⟨m4, by have := HL1.out; have := HL2.out; have := HL3.out; have := HL4.out; have := HM0.out; omega, HS4.out⟩, (HKW.out.trans (Keep.of_below HBV.out)).trans HKF.out⟩
      go_roundg (3 - (k + 1))
      case measure => omega
      case rel => exact ⟨k + 1, by go_num, by omega, rfl, HF.out⟩
    · obtain rfl : k = 3 := by omega
      have HAL := Lib.hid (alive9_c nd fv pv wr hQ.fs.vars)
      have HQF := Lib.hid hQ
      clear hQ hKw HR
      go_wp2_with fail
      refine HAL.out.mono ?_
      rintro _ w9 ⟨rfl, hB⟩
      have HQG := Lib.hid (HQF.out.below nd hB)
      clear hB HAL HQF
      go_wp2_with fail
      go_ret
      exact ⟨rfl, HBY.out.trans (HQG.out.fs.bel.mono HBY.out.size)⟩
set_option maxHeartbeats 16000000 in
set_option maxRecDepth 100000 in
theorem pairs_longx {M : World → Int → Tv → Prop} (nd : NdV M) (fv : FnV M) (pv : PtV M) (n : Int) (x z : En) (W : World) (hvx : Vars W) (hx : EnOk W x) (hz : EnOk W z) (hxl : 200 < x.v.length) :
    Calls Tryd.prog 7 #[.int .i64 n, .agg (enC x).toArray, .agg (enC z).toArray] W (Aye W) := by
  obtain ⟨X1, hX1⟩ : ∃ X1, X1 = W.alloc (.cells (enC x).toArray 27) := ⟨_, rfl⟩
  obtain ⟨X, hX⟩ : ∃ X, X = X1.alloc (.cells (enC z).toArray 27) := ⟨_, rfl⟩
  have hb1 : Below W.heap.size W X1 := by rw [hX1]; exact (Below.refl _ _).alloc (Nat.le_refl _) _
  have hb2 : Below X1.heap.size X1 X := by rw [hX]; exact (Below.refl _ _).alloc (Nat.le_refl _) _
  have hb0 : Below W.heap.size W X := hb1.trans (hb2.mono hb1.size)
  have hs1 : X1.heap.size = W.heap.size + 1 := by rw [hX1]; simp
  have hrx : X.rangeAt W.heap.size 0 (enC x) := range_below (by rw [hX1]; exact ent_made W x _) hb2
  have hrz : X.rangeAt (W.heap.size + 1) 0 (enC z) := by rw [hX, ← hs1]; exact ent_made X1 z _
  have hsX : X.heap.size = W.heap.size + 1 + 1 := by rw [hX]; simp [hs1]
  have lvx := range_val hrx hx.key
  have lvz := range_val hrz hz.key
  have lkx := range_key hrx hx.key
  have lkz := range_key hrz hz.key
  have lex := range_ent hrx hx.key
  have lez := range_ent hrz hz.key
  rw [Nat.zero_add] at lvx lvz
  have e1 : decide (200 < (x.v.length : Int)) = true := decide_eq_true (by omega)
  have e2 : decide (200 < x.v.length) = true := decide_eq_true (by omega)
  have bs := bsE9_two x z hx.key hz.key
  have HX : Hid (X = (W.alloc (.cells (enC x).toArray 27)).alloc (.cells (enC z).toArray 27)) := by show _ = _; rw [hX, hX1]
  have HB0 := Lib.hid hb0
  have HRX := Lib.hid hrx
  have HRZ := Lib.hid hrz
  have HXO := Lib.hid (hx.below hb0)
  have HZO := Lib.hid (hz.below hb0)
  have HVX := Lib.hid (hvx.below hb0)
  have HSX := Lib.hid hsX
  rw [hX, hX1] at lvx lvz lkx lkz lex lez
  clear hX1 hX hb1 hb2 hb0 hs1 hrx hrz hsX hx hz hxl hvx
  go_enter Tryd.func7, Tryd.ntmps7
  go_wp2_with fail
  rw [← HX.out]
  have HAL := Lib.hid (alive9_c nd fv pv X HVX.out)
  refine HAL.out.mono ?_
  rintro _ w4 ⟨rfl, hB⟩
  have HB5 := Lib.hid (HB0.out.trans (hB.mono HB0.out.size))
  clear hB HAL
  go_wp2_with fail
  go_ret
  exact ⟨rfl, HB5.out⟩
set_option maxHeartbeats 16000000 in
set_option maxRecDepth 100000 in
theorem pairs_longz {M : World → Int → Tv → Prop} (nd : NdV M) (fv : FnV M) (pv : PtV M) (n : Int) (x z : En) (W : World) (hvx : Vars W) (hx : EnOk W x) (hz : EnOk W z) (hxl : x.v.length ≤ 200) (hzl : 200 < z.v.length) :
    Calls Tryd.prog 7 #[.int .i64 n, .agg (enC x).toArray, .agg (enC z).toArray] W (Aye W) := by
  obtain ⟨X1, hX1⟩ : ∃ X1, X1 = W.alloc (.cells (enC x).toArray 27) := ⟨_, rfl⟩
  obtain ⟨X, hX⟩ : ∃ X, X = X1.alloc (.cells (enC z).toArray 27) := ⟨_, rfl⟩
  have hb1 : Below W.heap.size W X1 := by rw [hX1]; exact (Below.refl _ _).alloc (Nat.le_refl _) _
  have hb2 : Below X1.heap.size X1 X := by rw [hX]; exact (Below.refl _ _).alloc (Nat.le_refl _) _
  have hb0 : Below W.heap.size W X := hb1.trans (hb2.mono hb1.size)
  have hs1 : X1.heap.size = W.heap.size + 1 := by rw [hX1]; simp
  have hrx : X.rangeAt W.heap.size 0 (enC x) := range_below (by rw [hX1]; exact ent_made W x _) hb2
  have hrz : X.rangeAt (W.heap.size + 1) 0 (enC z) := by rw [hX, ← hs1]; exact ent_made X1 z _
  have hsX : X.heap.size = W.heap.size + 1 + 1 := by rw [hX]; simp [hs1]
  have lvx := range_val hrx hx.key
  have lvz := range_val hrz hz.key
  have lkx := range_key hrx hx.key
  have lkz := range_key hrz hz.key
  have lex := range_ent hrx hx.key
  have lez := range_ent hrz hz.key
  rw [Nat.zero_add] at lvx lvz
  have e1 : decide (200 < (x.v.length : Int)) = false := decide_eq_false (by omega)
  have e2 : decide (200 < x.v.length) = false := decide_eq_false (by omega)
  have e3 : decide (200 < (z.v.length : Int)) = true := decide_eq_true (by omega)
  have e4 : decide (200 < z.v.length) = true := decide_eq_true (by omega)
  have bs := bsE9_two x z hx.key hz.key
  have HX : Hid (X = (W.alloc (.cells (enC x).toArray 27)).alloc (.cells (enC z).toArray 27)) := by show _ = _; rw [hX, hX1]
  have HB0 := Lib.hid hb0
  have HRX := Lib.hid hrx
  have HRZ := Lib.hid hrz
  have HXO := Lib.hid (hx.below hb0)
  have HZO := Lib.hid (hz.below hb0)
  have HVX := Lib.hid (hvx.below hb0)
  have HSX := Lib.hid hsX
  rw [hX, hX1] at lvx lvz lkx lkz lex lez
  clear hX1 hX hb1 hb2 hb0 hs1 hrx hrz hsX hx hz hxl hzl hvx
  go_enter Tryd.func7, Tryd.ntmps7
  go_wp2_with fail
  rw [← HX.out]
  have HAL := Lib.hid (alive9_c nd fv pv X HVX.out)
  refine HAL.out.mono ?_
  rintro _ w4 ⟨rfl, hB⟩
  have HB5 := Lib.hid (HB0.out.trans (hB.mono HB0.out.size))
  clear hB HAL
  go_wp2_with fail
  go_ret
  exact ⟨rfl, HB5.out⟩
set_option maxHeartbeats 16000000 in
set_option maxRecDepth 100000 in
theorem pairs_same {M : World → Int → Tv → Prop} (nd : NdV M) (fv : FnV M) (pv : PtV M) (n : Int) (x z : En) (W : World) (hvx : Vars W) (hx : EnOk W x) (hz : EnOk W z) (hxl : x.v.length ≤ 200) (hzl : z.v.length ≤ 200) (hne : x.k = z.k) :
    Calls Tryd.prog 7 #[.int .i64 n, .agg (enC x).toArray, .agg (enC z).toArray] W (Aye W) := by
  obtain ⟨X1, hX1⟩ : ∃ X1, X1 = W.alloc (.cells (enC x).toArray 27) := ⟨_, rfl⟩
  obtain ⟨X, hX⟩ : ∃ X, X = X1.alloc (.cells (enC z).toArray 27) := ⟨_, rfl⟩
  have hb1 : Below W.heap.size W X1 := by rw [hX1]; exact (Below.refl _ _).alloc (Nat.le_refl _) _
  have hb2 : Below X1.heap.size X1 X := by rw [hX]; exact (Below.refl _ _).alloc (Nat.le_refl _) _
  have hb0 : Below W.heap.size W X := hb1.trans (hb2.mono hb1.size)
  have hs1 : X1.heap.size = W.heap.size + 1 := by rw [hX1]; simp
  have hrx : X.rangeAt W.heap.size 0 (enC x) := range_below (by rw [hX1]; exact ent_made W x _) hb2
  have hrz : X.rangeAt (W.heap.size + 1) 0 (enC z) := by rw [hX, ← hs1]; exact ent_made X1 z _
  have hsX : X.heap.size = W.heap.size + 1 + 1 := by rw [hX]; simp [hs1]
  have lvx := range_val hrx hx.key
  have lvz := range_val hrz hz.key
  have lkx := range_key hrx hx.key
  have lkz := range_key hrz hz.key
  have lex := range_ent hrx hx.key
  have lez := range_ent hrz hz.key
  rw [Nat.zero_add] at lvx lvz
  have e1 : decide (200 < (x.v.length : Int)) = false := decide_eq_false (by omega)
  have e2 : decide (200 < x.v.length) = false := decide_eq_false (by omega)
  have e3 : decide (200 < (z.v.length : Int)) = false := decide_eq_false (by omega)
  have e4 : decide (200 < z.v.length) = false := decide_eq_false (by omega)
  have ek : ∀ p q w, eqA .eql 24 p q w (.agg (bA x.k)) (.agg (bA z.k)) = .ok (.value (.bool true)) w := fun p q w => by rw [eqKey _ _ hx.key hz.key, decide_eq_true hne]
  have bs := bsE9_two x z hx.key hz.key
  have HX : Hid (X = (W.alloc (.cells (enC x).toArray 27)).alloc (.cells (enC z).toArray 27)) := by show _ = _; rw [hX, hX1]
  have HB0 := Lib.hid hb0
  have HRX := Lib.hid hrx
  have HRZ := Lib.hid hrz
  have HXO := Lib.hid (hx.below hb0)
  have HZO := Lib.hid (hz.below hb0)
  have HVX := Lib.hid (hvx.below hb0)
  have HSX := Lib.hid hsX
  rw [hX, hX1] at lvx lvz lkx lkz lex lez
  clear hX1 hX hb1 hb2 hb0 hs1 hrx hrz hsX hx hz hxl hzl hne hvx
  go_enter Tryd.func7, Tryd.ntmps7
  go_wp2_with fail
  rw [← HX.out]
  have HAL := Lib.hid (alive9_c nd fv pv X HVX.out)
  refine HAL.out.mono ?_
  rintro _ w4 ⟨rfl, hB⟩
  have HB5 := Lib.hid (HB0.out.trans (hB.mono HB0.out.size))
  clear hB HAL
  go_wp2_with fail
  go_ret
  exact ⟨rfl, HB5.out⟩
set_option maxHeartbeats 16000000 in
set_option maxRecDepth 100000 in
theorem pairs_out {M : World → Int → Tv → Prop} (nd : NdV M) (fv : FnV M) (pv : PtV M) (n : Int) (x z : En) (W : World) (hvx : Vars W) (hx : EnOk W x) (hz : EnOk W z) (hn : n < 0 ∨ 256 < n) (hxl : x.v.length ≤ 200) (hzl : z.v.length ≤ 200) (hne : x.k ≠ z.k) :
    Calls Tryd.prog 7 #[.int .i64 n, .agg (enC x).toArray, .agg (enC z).toArray] W (Aye W) := by
  obtain ⟨X1, hX1⟩ : ∃ X1, X1 = W.alloc (.cells (enC x).toArray 27) := ⟨_, rfl⟩
  obtain ⟨X, hX⟩ : ∃ X, X = X1.alloc (.cells (enC z).toArray 27) := ⟨_, rfl⟩
  have hb1 : Below W.heap.size W X1 := by rw [hX1]; exact (Below.refl _ _).alloc (Nat.le_refl _) _
  have hb2 : Below X1.heap.size X1 X := by rw [hX]; exact (Below.refl _ _).alloc (Nat.le_refl _) _
  have hb0 : Below W.heap.size W X := hb1.trans (hb2.mono hb1.size)
  have hs1 : X1.heap.size = W.heap.size + 1 := by rw [hX1]; simp
  have hrx : X.rangeAt W.heap.size 0 (enC x) := range_below (by rw [hX1]; exact ent_made W x _) hb2
  have hrz : X.rangeAt (W.heap.size + 1) 0 (enC z) := by rw [hX, ← hs1]; exact ent_made X1 z _
  have hsX : X.heap.size = W.heap.size + 1 + 1 := by rw [hX]; simp [hs1]
  have lvx := range_val hrx hx.key
  have lvz := range_val hrz hz.key
  have lkx := range_key hrx hx.key
  have lkz := range_key hrz hz.key
  have lex := range_ent hrx hx.key
  have lez := range_ent hrz hz.key
  rw [Nat.zero_add] at lvx lvz
  have e1 : decide (200 < (x.v.length : Int)) = false := decide_eq_false (by omega)
  have e2 : decide (200 < x.v.length) = false := decide_eq_false (by omega)
  have e3 : decide (200 < (z.v.length : Int)) = false := decide_eq_false (by omega)
  have e4 : decide (200 < z.v.length) = false := decide_eq_false (by omega)
  have ek : ∀ p q w, eqA .eql 24 p q w (.agg (bA x.k)) (.agg (bA z.k)) = .ok (.value (.bool false)) w := fun p q w => by rw [eqKey _ _ hx.key hz.key, decide_eq_false hne]
  have bs := bsE9_two x z hx.key hz.key
  have HX : Hid (X = (W.alloc (.cells (enC x).toArray 27)).alloc (.cells (enC z).toArray 27)) := by show _ = _; rw [hX, hX1]
  have HB0 := Lib.hid hb0
  have HRX := Lib.hid hrx
  have HRZ := Lib.hid hrz
  have HXO := Lib.hid (hx.below hb0)
  have HZO := Lib.hid (hz.below hb0)
  have HXL := Lib.hid hxl
  have HZL := Lib.hid hzl
  have HN := Lib.hid hn
  have HVX := Lib.hid (hvx.below hb0)
  have HSX := Lib.hid hsX
  rw [hX, hX1] at lvx lvz lkx lkz lex lez
  clear hX1 hX hb1 hb2 hb0 hs1 hrx hrz hsX hx hz hxl hzl hne hn hvx
  go_enter Tryd.func7, Tryd.ntmps7
  go_wp2_with fail
  rw [← HX.out, ← HSX.out]
  obtain ⟨Y, hY⟩ : ∃ Y, Y = X.alloc (.cells (enC x ++ enC z).toArray 27) := ⟨_, rfl⟩
  have hbY : Below X.heap.size X Y := by rw [hY]; exact (Below.refl _ _).alloc (Nat.le_refl _) _
  have hea : EA Y (some ⟨X.heap.size, 0, none⟩) [x, z] := by rw [hY]; exact two_ea X x z HXO.out HZO.out _
  have HBY := Lib.hid (HB0.out.trans (hbY.mono HB0.out.size))
  have HVY := Lib.hid (HVX.out.below hbY)
  have HT := Lib.hid (tree_out n (some ⟨X.heap.size, 0, none⟩) 2 [x, z] Y hea (.inl HN.out))
  rw [show ([x, z] : List En).length = 2 from rfl] at HT
  have HAL := Lib.hid (fun w h => alive9_c nd fv pv w h)
  rw [← hY]
  clear hY hbY hea lvx lvz lkx lkz lex lez e1 e2 e3 e4 ek bs HX
  refine HT.out.mono ?_
  rintro _ w2 ⟨rfl, hB⟩
  have HB := Lib.hid hB
  clear hB HT
  go_wp2_with fail
  refine (hash_any n w2).mono ?_
  rintro _ w3 ⟨p, rfl, hB⟩
  have HB3 := Lib.hid (HB.out.trans (hB.mono HB.out.size))
  clear hB HB
  go_wp2_with fail
  refine (HAL.out w3 (HVY.out.below HB3.out)).mono ?_
  rintro _ w4 ⟨rfl, hB⟩
  have HB5 := Lib.hid (HB3.out.trans (hB.mono HB3.out.size))
  clear hB
  go_wp2_with fail
  go_ret
  exact ⟨rfl, HBY.out.trans (HB5.out.mono HBY.out.size)⟩
theorem pairs_w {M : World → Int → Tv → Prop} (nd : NdV M) (fv : FnV M) (pv : PtV M) (n : Int) (x z : En) (W : World) (hvx : Vars W) (hx : EnOk W x) (hz : EnOk W z) :
    Calls Tryd.prog 7 #[.int .i64 n, .agg (enC x).toArray, .agg (enC z).toArray] W (Aye W) := by
  rcases Nat.lt_or_ge 200 x.v.length with h1 | h1
  · exact pairs_longx nd fv pv n x z W hvx hx hz h1
  · rcases Nat.lt_or_ge 200 z.v.length with h2 | h2
    · exact pairs_longz nd fv pv n x z W hvx hx hz h1 h2
    · rcases Classical.em (x.k = z.k) with h3 | h3
      · exact pairs_same nd fv pv n x z W hvx hx hz h1 h2 h3
      · rcases Classical.em (n < 0 ∨ 256 < n) with h4 | h4
        · exact pairs_out nd fv pv n x z W hvx hx hz h4 h1 h2 h3
        · exact pairs_in nd fv pv n x z W hvx (by omega) (by omega) hx hz h1 h2 h3
end Go.Proofs.YtmgablpnggoabaaDoor
