/- Several texts in one: Wi Wj Wk Wl Wz. -/
import Derived.Laws.BytesString
import Derived.Test.YtaajnjddfcdeaaaGreatDoorW1
import Derived.Test.YtaajnjddfcdeaaaGreatDoorMR
import Derived.Test.YtaajnjddfcdeaaaGreatDoorJ2
import Derived.Test.YtaajnjddfcdeaaaGreatDoorML
/- The program's closures of differences: bytes.Equal, the order, the visit (drawn regions by program: gen-tpl12-visit.py). -/
namespace Go.Proofs.YtaajnjddfcdeaaaGreatDoor
open Go.RowKit Go.Shelf

theorem conv12 {w : World} {A : Option Addr} {l : List UInt8} (h : BA w A l) (c : Nat) : (convert 32 9 (.slice A l.length c)).run Tryz.prog w = .ok (.string ⟨l.toArray⟩) w := by
  cases A with
  | none =>
    have e : l = [] := by
      cases l with
      | nil => rfl
      | cons x l => obtain ⟨b, o, e, _⟩ := h 0 x rfl; cases e
    subst e
    rw [List.length_nil, run_convert_bytes_string w 32 9 5 none 0 c Tryz.underlying32 Tryz.underlying5 Tryz.underlying9]
    rfl
  | some a =>
    refine run_convert_bytes_back w 32 9 5 a c l Tryz.underlying32 Tryz.underlying5 Tryz.underlying9 fun j hj => ?_
    obtain ⟨b, o, e, hc⟩ := h j l[j] (List.getElem?_eq_getElem hj)
    simp only [Option.some.injEq] at e
    subst e
    rw [Addr.add_mid]
    exact hc
set_option maxHeartbeats 8000000 in
set_option maxRecDepth 100000 in
theorem equal_c (A B : Option Addr) (c d : Nat) (l m : List UInt8) (w : World) (hA : BA w A l) (hB : BA w B m) :
    Calls Tryz.prog 88 #[.slice A l.length c, .slice B m.length d] w fun e w' => e = .returned (.bool (decide (l = m))) ∧ w = w' := by
  have c1 := conv12 hA c
  have c2 := conv12 hB d
  clear hA hB
  go_enter Tryz.func88, Tryz.ntmps88
  go_wp2_with fail
  go_ret
  refine ⟨?_, rfl⟩
  rw [show (l == m) = decide (l = m) by by_cases h : l = m <;> simp [h]]
  rfl
/-! ### The order -/
set_option maxHeartbeats 8000000 in
set_option maxRecDepth 100000 in
theorem order_c (e f : En) (he : e.k.length = 32) (hf : f.k.length = 32) (w : World) : Calls Tryz.prog 84 #[.agg (enC e).toArray, .agg (enC f).toArray] w fun x w' => x = .returned (.int .i64 (cmpK e.k f.k)) ∧ Below w.heap.size w w' := by
  obtain ⟨X, hX⟩ : ∃ X, X = (w.alloc (.cells (enC e).toArray 34)).alloc (.cells (enC f).toArray 34) := ⟨_, rfl⟩
  have hb1 := (Below.refl w.heap.size w).alloc (Nat.le_refl _) (.cells (enC e).toArray 34)
  have hbX : Below w.heap.size w X := by rw [hX]; exact hb1.alloc (by simp) _
  have r1 : X.rangeAt w.heap.size 0 (enC e) := by rw [hX]; exact World.rangeAt_alloc (ent_made w e _) _
  have r2 : X.rangeAt (w.heap.size + 1) 0 (enC f) := by
    have := ent_made (w.alloc (.cells (enC e).toArray 34)) f 34
    rw [show (w.alloc (.cells (enC e).toArray 34)).heap.size = w.heap.size + 1 by simp] at this
    rw [hX]; exact this
  have l1 := range_key r1 he
  have l2 := range_key r2 hf
  have HCM := Lib.hid (cmpP12_c e.k f.k he hf X)
  have HX := Lib.hid hX
  have HBX := Lib.hid hbX
  rw [hX] at l1 l2
  clear hX hb1 hbX r1 r2 he hf
  go_enter Tryz.func84, Tryz.ntmps84
  go_wp2_with fail
  rw [← HX.out]
  refine HCM.out.mono ?_
  rintro _ w1 ⟨rfl, hB⟩
  have HB := Lib.hid (HBX.out.trans (hB.mono HBX.out.size))
  clear hB
  go_wp2_with fail
  go_ret
  exact ⟨rfl, HB.out⟩
/-! ### The visit -/
/-- What the loops of differences keep: the changes so far, in the variable at block w.heap.size. -/
def VsI (w : World) (ys : List Cn) (X : World) : Prop := Below w.heap.size w X ∧ ∃ v, X.heap[w.heap.size]? = some (.cells #[v] 47 (0, 0)) ∧ OwnC 69 X (w.heap.size + 1) v ys ∧ ∀ y ∈ ys, CnOk w y
theorem VsI.below {w : World} {ys : List Cn} {X Y : World} (h : VsI w ys X) (hb : Below X.heap.size X Y) : VsI w ys Y := by
  obtain ⟨h0, v, h1, h2, h3⟩ := h
  exact ⟨h0.trans (hb.mono h0.size), v, (hb.block _ (lt_of_heap h1)).trans h1, h2.below hb, h3⟩
theorem VsI.push12 {w : World} {ys : List Cn} {X w9 : World} {v v9 : Value} {xx : Cn} (h0 : Below w.heap.size w X) (h3 : ∀ y ∈ ys, CnOk w y) (hq : Below (w.heap.size + 1) X w9) (hc : w9.heap[w.heap.size]? = some (.cells #[v] 47 (0, 0))) (ho : OwnC 69 w9 (w.heap.size + 1) v9 (ys ++ [xx])) (hx : CnOk w xx) :
    VsI w (ys ++ [xx]) (w9.setCell ⟨w.heap.size, 0, none⟩ v9) := by
  have hk := Keep.cell w9 ⟨w.heap.size, 0, none⟩ v9
  refine ⟨(h0.trans (hq.mono (Nat.le_succ _))).setCell (Nat.le_refl _) _, v9, set_row hc, row11_keep ho hk fun g hg e => ?_, fun y hy => ?_⟩
  · have e2 : g = w.heap.size := e
    have := ho.ge g hg
    omega
  · rcases List.mem_append.1 hy with hy | hy
    · exact h3 y hy
    · rw [List.mem_singleton.1 hy]; exact hx
theorem eqE_nn (w : World) : (binOp .eql 139 (.pointer none) (.pointer none)).run Tryz.prog w = .ok (.bool true) w := by kernel_rfl
theorem eqE_sn (a : Addr) (w : World) : (binOp .eql 139 (.pointer (some a)) (.pointer none)).run Tryz.prog w = .ok (.bool false) w := by kernel_rfl
theorem bldCb_delf (f : Nat → UInt8) (w : World) : bldA 69 w #[(0, .agg (bA ((List.range 32).map f))), (2, .bool true)] = .ok (.value (.agg (((List.range 32).map f).map bv ++ [Value.slice none 0 0, Value.bool true]).toArray)) w := by kernel_rfl
theorem bldCb_del (k : List UInt8) (hk : k.length = 32) (w : World) : bldA 69 w #[(0, .agg (bA k)), (2, .bool true)] = .ok (.value (.agg (cnC ⟨k, none, [], 0, true⟩).toArray)) w := by
  have := bldCb_delf (fun j => k.getD j 0) w
  rw [← list32 k hk] at this
  exact this
def delC (e : En) : Cn := ⟨e.k, none, [], 0, true⟩
set_option maxHeartbeats 8000000 in
set_option maxRecDepth 100000 in
theorem visit_del (w X : World) (ys : List Cn) (g o : Nat) (e : En) (hV : VsI w ys X) (he : EnOk w e) (hr : w.rangeAt g o (enC e)) (hl : ys.length ≤ 1000) :
    Calls Tryz.prog 87 #[.pointer (some ⟨g, o, none⟩), .pointer none, .pointer (some ⟨w.heap.size, 0, none⟩)] X fun x Y => x = .returned (.tuple #[]) ∧ VsI w (ys ++ [delC e]) Y := by
  obtain ⟨h0, v, h1, h2, h3⟩ := hV
  have LV : Hid (∀ q, Below (w.heap.size + 1) X q → q.cell? ⟨w.heap.size, 0, none⟩ = some v ∧ ldA 31 q (.pointer (some ⟨g, o, none⟩)) = .ok (.value (.agg (bA e.k))) q) := fun q hq => by
    have hc : q.heap[w.heap.size]? = some (.cells #[v] 47 (0, 0)) := (hq.block _ (Nat.lt_succ_self _)).trans h1
    exact ⟨by rw [cell_of_cells hc]; rfl, range_key (range_below hr (h0.trans (hq.mono (Nat.le_succ _)))) he.key⟩
  obtain ⟨xx, hxx⟩ : ∃ xx, xx = delC e := ⟨_, rfl⟩
  have HXK : Hid (xx.k.length = 32) := by rw [hxx]; exact he.key
  have HXO : Hid (CnOk w xx) := by rw [hxx]; exact ⟨he.key, Nat.le_refl 0, ba_nil12 _ _⟩
  have bl : ∀ w, bldA 69 w #[(0, .agg (bA e.k)), (2, .bool true)] = .ok (.value (.agg (cnC xx).toArray)) w := fun w => by rw [hxx]; exact bldCb_del e.k he.key w
  have HVS : Hid (Below w.heap.size w X ∧ ∀ y ∈ ys, CnOk w y) := ⟨h0, h3⟩
  have HOW := Lib.hid h2
  have HLC := Lib.hid h1
  have HXS : Hid (w.heap.size + 1 ≤ X.heap.size) := lt_of_heap h1
  have HYL : Hid (ys.length ≤ 1000000) := by show _ ≤ _; omega
  have e0 := eqE_nn
  rw [← hxx]
  clear h0 h1 h2 h3 hxx he hr hl
  go_enter Tryz.func87, Tryz.ntmps87
  go_wp2_with fail
  clear e0
  refine region_heldT 8 (fun q => Below (w.heap.size + 1) X q) (by kernel_rfl) ?_
  have hHeld : Below (w.heap.size + 1) X X.drew := (Below.refl _ _).drew
  refine HeldT.take (i := 0) (oi := { dst := some 8, op := .load _ (.tmp 2), type := _, pos := _, after := _, guard := _ }) (v := ?_) rfl (by kernel_rfl) (by kernel_rfl) (by kernel_rfl) (by kernel_rfl) (fun _ _ _ h => h) (Or.inl ⟨by rfl, ?_⟩) (by assumption) ?_
  rotate_left 1
  · intro v hSv
    have hv1 := LV.out v hSv |>.1
    clear hSv
    go_simp
    try with_reducible rfl
  try simp only [Act.put, List.setIfInBounds_toArray, List.set_cons_zero, List.set_cons_succ]
  refine HeldT.take (i := 1) (oi := { dst := some 9, op := .move (.tmp 0), type := _, pos := _, after := _, guard := _ }) (v := ?_) rfl (by kernel_rfl) (by kernel_rfl) (by kernel_rfl) (by kernel_rfl) (fun _ _ _ h => h) (Or.inl ⟨by rfl, ?_⟩) (by assumption) ?_
  rotate_left 1
  · intro v hSv
    clear hSv
    go_simp
    try with_reducible rfl
  try simp only [Act.put, List.setIfInBounds_toArray, List.set_cons_zero, List.set_cons_succ]
  refine HeldT.take (i := 2) (oi := { dst := some 10, op := .nilCheck (.tmp 9), type := _, pos := _, after := _, guard := _ }) (v := ?_) rfl (by kernel_rfl) (by kernel_rfl) (by kernel_rfl) (by kernel_rfl) (fun _ _ _ h => h) (Or.inl ⟨by rfl, ?_⟩) (by assumption) ?_
  rotate_left 1
  · intro v hSv
    clear hSv
    go_simp
    try with_reducible rfl
  try simp only [Act.put, List.setIfInBounds_toArray, List.set_cons_zero, List.set_cons_succ]
  refine HeldT.take (i := 3) (oi := { dst := some 11, op := .fieldAddr _ (.tmp 10) 0, type := _, pos := _, after := _, guard := _ }) (v := ?_) rfl (by kernel_rfl) (by kernel_rfl) (by kernel_rfl) (by kernel_rfl) (fun _ _ _ h => h) (Or.inl ⟨by rfl, ?_⟩) (by assumption) ?_
  rotate_left 1
  · intro v hSv
    clear hSv
    go_simp
    try with_reducible rfl
  try simp only [Act.put, List.setIfInBounds_toArray, List.set_cons_zero, List.set_cons_succ]
  refine HeldT.take (i := 4) (oi := { dst := some 12, op := .load _ (.tmp 11), type := _, pos := _, after := _, guard := _ }) (v := ?_) rfl (by kernel_rfl) (by kernel_rfl) (by kernel_rfl) (by kernel_rfl) (fun _ _ _ h => h) (Or.inl ⟨by rfl, ?_⟩) (by assumption) ?_
  rotate_left 1
  · intro v hSv
    have hv1 := LV.out v hSv |>.2
    clear hSv
    go_simp
    try with_reducible rfl
  try simp only [Act.put, List.setIfInBounds_toArray, List.set_cons_zero, List.set_cons_succ]
  refine HeldT.take (i := 5) (oi := { dst := some 13, op := .build _ #[(0, .tmp 12), (2, .const (.bool true))], type := _, pos := _, after := _, guard := _ }) (v := ?_) rfl (by kernel_rfl) (by kernel_rfl) (by kernel_rfl) (by kernel_rfl) (fun _ _ _ h => h) (Or.inl ⟨by rfl, ?_⟩) (by assumption) ?_
  rotate_left 1
  · intro v hSv
    have hv1 := bl v
    clear hSv
    go_simp
    try with_reducible rfl
  try simp only [Act.put, List.setIfInBounds_toArray, List.set_cons_zero, List.set_cons_succ]
  refine HeldT.one (i := 6) (o := { dst := some 14, op := .buildSlice _ _ _, type := _, pos := _, after := _, guard := _ }) (by kernel_rfl) rfl rfl (fun K hK => ?_)
  obtain ⟨Z, hZ⟩ : ∃ Z, Z = (X.alloc (.cells (cnC xx).toArray 69)).drew := ⟨_, rfl⟩
  have hq1 : Below (w.heap.size + 1) X Z := by rw [hZ]; exact ((Below.refl _ _).alloc HXS.out _).drew
  have hbz : Below X.heap.size X Z := by rw [hZ]; exact ((Below.refl _ _).alloc (Nat.le_refl _) _).drew
  have hrg : Z.rangeAt X.heap.size 0 (cnC xx) := by rw [hZ]; exact (World.rangeAt_drew _ _ _ _).2 (cn_made X xx _)
  have HQ1 := Lib.hid hq1
  have HBZ := Lib.hid hbz
  have HRG := Lib.hid hrg
  have HZ := Lib.hid hZ
  clear hZ hbz hrg
  have bs := bsCb_one xx HXK.out
  go_wp2_with fail
  rw [← HZ.out]
  refine hK.out _ _ (fun _ => hq1) (fun hS => ?_)
  have hHeld := hS (by decide)
  clear hS hK K
  try simp only [Act.put, List.setIfInBounds_toArray, List.set_cons_zero, List.set_cons_succ]
  clear hq1 HZ bs
  refine HeldT.one (i := 7) (o := { dst := some 15, op := .call _, type := _, pos := _, after := _, guard := _ }) (by kernel_rfl) rfl rfl (fun K hK => ?_)
  have HOZ := Lib.hid (OwnC.below HOW.out HBZ.out)
  have hzs : w.heap.size + 1 ≤ Z.heap.size := Nat.le_trans HXS.out HBZ.out.size
  go_wp2_with (at_builtin; refine wpList_pushC Tryz.underlying47 infoCb rfl _ _ rfl (w.heap.size + 1) v ys rfl HOZ.out X.heap.size xx HXK.out rfl HRG.out HYL.out hzs ?_; intro v9 w9 hO9 hG9)
  have hb9 : Below (w.heap.size + 1) Z w9 := (Below.refl _ _).grown hG9.by_ hzs fun k hk => (row11_lt HOZ.out k hk).1
  have hq9 := HQ1.out.trans hb9
  have HO9 := Lib.hid hO9
  have HQ9 := Lib.hid hq9
  clear hO9 hG9 hb9 hzs
  refine hK.out _ _ (fun _ => hq9) (fun hS => ?_)
  have hHeld := hS (by decide)
  clear hS hK K
  try simp only [Act.put, List.setIfInBounds_toArray, List.set_cons_zero, List.set_cons_succ]
  clear hq9 HOZ HQ1 HBZ HRG
  refine HeldT.one (i := 8) (o := { dst := none, op := .store _ (.tmp 2) (.tmp 15), type := _, pos := _, after := _, guard := _ }) (by kernel_rfl) rfl rfl (fun K hK => ?_)
  have hc9 : w9.heap[w.heap.size]? = some (.cells #[v] 47 (0, 0)) := (HQ9.out.block _ (Nat.lt_succ_self _)).trans HLC.out
  have s1 : w9.cell? ⟨w.heap.size, 0, none⟩ = some v := by rw [cell_of_cells hc9]; rfl
  have s2 : w9.frozen? ⟨w.heap.size, 0, none⟩ = false := frozen_of_row w9 _ _ _ _ hc9
  obtain ⟨A9, c9, rfl, _⟩ := HO9.out.len
  obtain ⟨n9, hn9⟩ : ∃ n, n = (ys ++ [xx]).length := ⟨_, rfl⟩
  have HN9 := Lib.hid hn9
  have HC9 := Lib.hid hc9
  rw [← hn9]
  clear hn9 hc9
  go_wp2_with fail
  refine hK.out _ _ (fun h => absurd rfl h) (fun _ => ?_)
  clear hK K
  refine HeldT.done (by kernel_rfl) ?_ _
  go_wp2_with fail
  refine bodyPost_end (results_none rfl _ _ _) rfl ⟨rfl, ?_⟩
  rw [HN9.out]
  exact VsI.push12 HVS.out.1 HVS.out.2 HQ9.out HC9.out HO9.out HXO.out
set_option maxHeartbeats 8000000 in
set_option maxRecDepth 100000 in
theorem visit_new (w X : World) (ys : List Cn) (g o : Nat) (f : En) (hV : VsI w ys X) (hf : EnOk w f) (hr : w.rangeAt g o (enC f)) (hl : ys.length ≤ 1000) :
    Calls Tryz.prog 87 #[.pointer none, .pointer (some ⟨g, o, none⟩), .pointer (some ⟨w.heap.size, 0, none⟩)] X fun x Y => x = .returned (.tuple #[]) ∧ VsI w (ys ++ [f.cn]) Y := by
  have HV := Lib.hid hV
  have HFO := Lib.hid hf
  have HRF := Lib.hid hr
  have HYL : Hid (ys.length ≤ 1000000) := by show _ ≤ _; omega
  obtain ⟨xx, hxx⟩ : ∃ xx, xx = En.cn f := ⟨_, rfl⟩
  have HXK : Hid (xx.k.length = 32) := by rw [hxx]; exact HFO.out.key
  have HXO : Hid (CnOk w xx) := by rw [hxx]; exact HFO.out.cn
  have HBL : Hid (∀ w, bldA 69 w #[(0, .agg (bA f.k)), (1, .slice f.A f.v.length f.c)] = .ok (.value (.agg (cnC xx).toArray)) w) := fun w => by rw [hxx]; exact bldCb_put f.k HFO.out.key f.A f.v f.c w
  rw [← hxx]
  clear hxx
  have e0 := eqE_nn
  have e1 := eqE_sn
  clear hV hf hr hl
  go_enter Tryz.func87, Tryz.ntmps87
  go_wp2_with fail
  refine wp_region_later (by kernel_rfl) (by kernel_rfl) ?_
  repeat (go_big_quiet_step (fail))
  refine wpQuiet_nil ?_
  rintro _ ⟨x, rfl⟩
  clear e0 e1
  obtain ⟨Y, hY⟩ : ∃ Y, Y = x.w := ⟨_, rfl⟩
  have hVY : VsI w ys Y := HV.out.below (by rw [hY]; exact x.h)
  rw [← hY]
  obtain ⟨h0, v, h1, h2, h3⟩ := hVY
  have LV : Hid (∀ q, Below (w.heap.size + 1) Y q → q.cell? ⟨w.heap.size, 0, none⟩ = some v ∧ ldA 31 q (.pointer (some ⟨g, o, none⟩)) = .ok (.value (.agg (bA f.k))) q ∧ q.cell? ⟨g, o + 32, none⟩ = some (.slice f.A f.v.length f.c)) := fun q hq => by
    have hc : q.heap[w.heap.size]? = some (.cells #[v] 47 (0, 0)) := (hq.block _ (Nat.lt_succ_self _)).trans h1
    have hrq := range_below HRF.out (h0.trans (hq.mono (Nat.le_succ _)))
    exact ⟨by rw [cell_of_cells hc]; rfl, range_key hrq HFO.out.key, range_val hrq HFO.out.key⟩
  have bl := HBL.out
  have HVS : Hid (Below w.heap.size w Y ∧ ∀ y ∈ ys, CnOk w y) := ⟨h0, h3⟩
  have HOW := Lib.hid h2
  have HLC := Lib.hid h1
  have HXS : Hid (w.heap.size + 1 ≤ Y.heap.size) := lt_of_heap h1
  clear h0 h1 h2 h3 hY
  go_wp2_with fail
  refine region_heldT 12 (fun q => Below (w.heap.size + 1) Y q) (by kernel_rfl) ?_
  have hHeld : Below (w.heap.size + 1) Y Y.drew := (Below.refl _ _).drew
  refine HeldT.take (i := 0) (oi := { dst := some 31, op := .load _ (.tmp 2), type := _, pos := _, after := _, guard := _ }) (v := ?_) rfl (by kernel_rfl) (by kernel_rfl) (by kernel_rfl) (by kernel_rfl) (fun _ _ _ h => h) (Or.inl ⟨by rfl, ?_⟩) (by assumption) ?_
  rotate_left 1
  · intro v hSv
    have hv1 := LV.out v hSv |>.1
    clear hSv
    go_simp
    try with_reducible rfl
  try simp only [Act.put, List.setIfInBounds_toArray, List.set_cons_zero, List.set_cons_succ]
  refine HeldT.take (i := 1) (oi := { dst := some 32, op := .move (.tmp 1), type := _, pos := _, after := _, guard := _ }) (v := ?_) rfl (by kernel_rfl) (by kernel_rfl) (by kernel_rfl) (by kernel_rfl) (fun _ _ _ h => h) (Or.inl ⟨by rfl, ?_⟩) (by assumption) ?_
  rotate_left 1
  · intro v hSv
    clear hSv
    go_simp
    try with_reducible rfl
  try simp only [Act.put, List.setIfInBounds_toArray, List.set_cons_zero, List.set_cons_succ]
  refine HeldT.take (i := 2) (oi := { dst := some 33, op := .nilCheck (.tmp 32), type := _, pos := _, after := _, guard := _ }) (v := ?_) rfl (by kernel_rfl) (by kernel_rfl) (by kernel_rfl) (by kernel_rfl) (fun _ _ _ h => h) (Or.inl ⟨by rfl, ?_⟩) (by assumption) ?_
  rotate_left 1
  · intro v hSv
    clear hSv
    go_simp
    try with_reducible rfl
  try simp only [Act.put, List.setIfInBounds_toArray, List.set_cons_zero, List.set_cons_succ]
  refine HeldT.take (i := 3) (oi := { dst := some 34, op := .fieldAddr _ (.tmp 33) 0, type := _, pos := _, after := _, guard := _ }) (v := ?_) rfl (by kernel_rfl) (by kernel_rfl) (by kernel_rfl) (by kernel_rfl) (fun _ _ _ h => h) (Or.inl ⟨by rfl, ?_⟩) (by assumption) ?_
  rotate_left 1
  · intro v hSv
    clear hSv
    go_simp
    try with_reducible rfl
  try simp only [Act.put, List.setIfInBounds_toArray, List.set_cons_zero, List.set_cons_succ]
  refine HeldT.take (i := 4) (oi := { dst := some 35, op := .load _ (.tmp 34), type := _, pos := _, after := _, guard := _ }) (v := ?_) rfl (by kernel_rfl) (by kernel_rfl) (by kernel_rfl) (by kernel_rfl) (fun _ _ _ h => h) (Or.inl ⟨by rfl, ?_⟩) (by assumption) ?_
  rotate_left 1
  · intro v hSv
    have hv1 := LV.out v hSv |>.2.1
    clear hSv
    go_simp
    try with_reducible rfl
  try simp only [Act.put, List.setIfInBounds_toArray, List.set_cons_zero, List.set_cons_succ]
  refine HeldT.take (i := 5) (oi := { dst := some 36, op := .move (.tmp 1), type := _, pos := _, after := _, guard := _ }) (v := ?_) rfl (by kernel_rfl) (by kernel_rfl) (by kernel_rfl) (by kernel_rfl) (fun _ _ _ h => h) (Or.inl ⟨by rfl, ?_⟩) (by assumption) ?_
  rotate_left 1
  · intro v hSv
    clear hSv
    go_simp
    try with_reducible rfl
  try simp only [Act.put, List.setIfInBounds_toArray, List.set_cons_zero, List.set_cons_succ]
  refine HeldT.take (i := 6) (oi := { dst := some 37, op := .nilCheck (.tmp 36), type := _, pos := _, after := _, guard := _ }) (v := ?_) rfl (by kernel_rfl) (by kernel_rfl) (by kernel_rfl) (by kernel_rfl) (fun _ _ _ h => h) (Or.inl ⟨by rfl, ?_⟩) (by assumption) ?_
  rotate_left 1
  · intro v hSv
    clear hSv
    go_simp
    try with_reducible rfl
  try simp only [Act.put, List.setIfInBounds_toArray, List.set_cons_zero, List.set_cons_succ]
  refine HeldT.take (i := 7) (oi := { dst := some 38, op := .fieldAddr _ (.tmp 37) 1, type := _, pos := _, after := _, guard := _ }) (v := ?_) rfl (by kernel_rfl) (by kernel_rfl) (by kernel_rfl) (by kernel_rfl) (fun _ _ _ h => h) (Or.inl ⟨by rfl, ?_⟩) (by assumption) ?_
  rotate_left 1
  · intro v hSv
    clear hSv
    go_simp
    try with_reducible rfl
  try simp only [Act.put, List.setIfInBounds_toArray, List.set_cons_zero, List.set_cons_succ]
  refine HeldT.take (i := 8) (oi := { dst := some 39, op := .load _ (.tmp 38), type := _, pos := _, after := _, guard := _ }) (v := ?_) rfl (by kernel_rfl) (by kernel_rfl) (by kernel_rfl) (by kernel_rfl) (fun _ _ _ h => h) (Or.inl ⟨by rfl, ?_⟩) (by assumption) ?_
  rotate_left 1
  · intro v hSv
    have hv1 := LV.out v hSv |>.2.2
    clear hSv
    go_simp
    try with_reducible rfl
  try simp only [Act.put, List.setIfInBounds_toArray, List.set_cons_zero, List.set_cons_succ]
  refine HeldT.take (i := 9) (oi := { dst := some 40, op := .build _ #[(0, .tmp 35), (1, .tmp 39)], type := _, pos := _, after := _, guard := _ }) (v := ?_) rfl (by kernel_rfl) (by kernel_rfl) (by kernel_rfl) (by kernel_rfl) (fun _ _ _ h => h) (Or.inl ⟨by rfl, ?_⟩) (by assumption) ?_
  rotate_left 1
  · intro v hSv
    have hv1 := bl v
    clear hSv
    go_simp
    try with_reducible rfl
  try simp only [Act.put, List.setIfInBounds_toArray, List.set_cons_zero, List.set_cons_succ]
  refine HeldT.one (i := 10) (o := { dst := some 41, op := .buildSlice _ _ _, type := _, pos := _, after := _, guard := _ }) (by kernel_rfl) rfl rfl (fun K hK => ?_)
  obtain ⟨Z, hZ⟩ : ∃ Z, Z = (Y.alloc (.cells (cnC xx).toArray 69)).drew := ⟨_, rfl⟩
  have hq1 : Below (w.heap.size + 1) Y Z := by rw [hZ]; exact ((Below.refl _ _).alloc HXS.out _).drew
  have hbz : Below Y.heap.size Y Z := by rw [hZ]; exact ((Below.refl _ _).alloc (Nat.le_refl _) _).drew
  have hrg : Z.rangeAt Y.heap.size 0 (cnC xx) := by rw [hZ]; exact (World.rangeAt_drew _ _ _ _).2 (cn_made Y xx _)
  have HQ1 := Lib.hid hq1
  have HBZ := Lib.hid hbz
  have HRG := Lib.hid hrg
  have HZ := Lib.hid hZ
  clear hZ hbz hrg
  have bs := bsCb_one xx HXK.out
  go_wp2_with fail
  rw [← HZ.out]
  refine hK.out _ _ (fun _ => hq1) (fun hS => ?_)
  have hHeld := hS (by decide)
  clear hS hK K
  try simp only [Act.put, List.setIfInBounds_toArray, List.set_cons_zero, List.set_cons_succ]
  clear hq1 HZ bs
  refine HeldT.one (i := 11) (o := { dst := some 42, op := .call _, type := _, pos := _, after := _, guard := _ }) (by kernel_rfl) rfl rfl (fun K hK => ?_)
  have HOZ := Lib.hid (OwnC.below HOW.out HBZ.out)
  have hzs : w.heap.size + 1 ≤ Z.heap.size := Nat.le_trans HXS.out HBZ.out.size
  go_wp2_with (at_builtin; refine wpList_pushC Tryz.underlying47 infoCb rfl _ _ rfl (w.heap.size + 1) v ys rfl HOZ.out Y.heap.size xx HXK.out rfl HRG.out HYL.out hzs ?_; intro v9 w9 hO9 hG9)
  have hb9 : Below (w.heap.size + 1) Z w9 := (Below.refl _ _).grown hG9.by_ hzs fun k hk => (row11_lt HOZ.out k hk).1
  have hq9 := HQ1.out.trans hb9
  have HO9 := Lib.hid hO9
  have HQ9 := Lib.hid hq9
  clear hO9 hG9 hb9 hzs
  refine hK.out _ _ (fun _ => hq9) (fun hS => ?_)
  have hHeld := hS (by decide)
  clear hS hK K
  try simp only [Act.put, List.setIfInBounds_toArray, List.set_cons_zero, List.set_cons_succ]
  clear hq9 HOZ HQ1 HBZ HRG
  refine HeldT.one (i := 12) (o := { dst := none, op := .store _ (.tmp 2) (.tmp 42), type := _, pos := _, after := _, guard := _ }) (by kernel_rfl) rfl rfl (fun K hK => ?_)
  have hc9 : w9.heap[w.heap.size]? = some (.cells #[v] 47 (0, 0)) := (HQ9.out.block _ (Nat.lt_succ_self _)).trans HLC.out
  have s1 : w9.cell? ⟨w.heap.size, 0, none⟩ = some v := by rw [cell_of_cells hc9]; rfl
  have s2 : w9.frozen? ⟨w.heap.size, 0, none⟩ = false := frozen_of_row w9 _ _ _ _ hc9
  obtain ⟨A9, c9, rfl, _⟩ := HO9.out.len
  obtain ⟨n9, hn9⟩ : ∃ n, n = (ys ++ [xx]).length := ⟨_, rfl⟩
  have HN9 := Lib.hid hn9
  have HC9 := Lib.hid hc9
  rw [← hn9]
  clear hn9 hc9
  go_wp2_with fail
  refine hK.out _ _ (fun h => absurd rfl h) (fun _ => ?_)
  clear hK K
  refine HeldT.done (by kernel_rfl) ?_ _
  go_wp2_with fail
  refine bodyPost_end (results_none rfl _ _ _) rfl ⟨rfl, ?_⟩
  rw [HN9.out]
  exact VsI.push12 HVS.out.1 HVS.out.2 HQ9.out HC9.out HO9.out HXO.out
set_option maxHeartbeats 8000000 in
set_option maxRecDepth 100000 in
theorem visit_same (w X : World) (ys : List Cn) (g1 o1 g o : Nat) (e f : En) (hV : VsI w ys X) (he : EnOk w e) (hr1 : w.rangeAt g1 o1 (enC e)) (hf : EnOk w f) (hr : w.rangeAt g o (enC f)) (hq : e.v = f.v) :
    Calls Tryz.prog 87 #[.pointer (some ⟨g1, o1, none⟩), .pointer (some ⟨g, o, none⟩), .pointer (some ⟨w.heap.size, 0, none⟩)] X fun x Y => x = .returned (.tuple #[]) ∧ VsI w ys Y := by
  have hbX := hV.1
  have HEQ : Hid (∀ q : Later X, Calls Tryz.prog 88 #[.slice e.A e.v.length e.c, .slice f.A f.v.length f.c] q.w fun x w'' => x = .returned (.bool true) ∧ ∃ y : Later X, w'' = y.w) := fun q => by
    have hb := hbX.trans (q.h.mono hbX.size)
    refine (equal_c e.A f.A e.c f.c e.v f.v q.w (he.val.below hb) (hf.val.below hb)).mono ?_
    rintro _ _ ⟨rfl, rfl⟩
    exact ⟨by rw [decide_eq_true hq], q, rfl⟩
  have lv1 : ∀ q : Later X, q.w.cell? ⟨g1, o1 + 32, none⟩ = some (.slice e.A e.v.length e.c) := fun q => range_val (range_below hr1 (hbX.trans (q.h.mono hbX.size))) he.key
  have lv2 : ∀ q : Later X, q.w.cell? ⟨g, o + 32, none⟩ = some (.slice f.A f.v.length f.c) := fun q => range_val (range_below hr (hbX.trans (q.h.mono hbX.size))) hf.key
  have HV := Lib.hid hV
  have e1 := eqE_sn
  clear hbX hV he hr1 hf hr hq
  go_enter Tryz.func87, Tryz.ntmps87
  go_wp2_with fail
  refine wp_region_later (by kernel_rfl) (by kernel_rfl) ?_
  repeat (go_big_quiet_step ((go_at_call 88; exact HEQ.out _)))
  refine wpQuiet_nil ?_
  rintro _ ⟨x, rfl⟩
  clear e1 lv1 lv2
  have hVY := HV.out.below x.h
  have HVY := Lib.hid hVY
  clear hVY
  go_wp2_with fail
  refine bodyPost_end (results_none rfl _ _ _) rfl ⟨rfl, ?_⟩
  exact HVY.out
set_option maxHeartbeats 8000000 in
set_option maxRecDepth 100000 in
theorem visit_other (w X : World) (ys : List Cn) (g1 o1 g o : Nat) (e f : En) (hV : VsI w ys X) (he : EnOk w e) (hr1 : w.rangeAt g1 o1 (enC e)) (hf : EnOk w f) (hr : w.rangeAt g o (enC f)) (hl : ys.length ≤ 1000) (hq : ¬ e.v = f.v) :
    Calls Tryz.prog 87 #[.pointer (some ⟨g1, o1, none⟩), .pointer (some ⟨g, o, none⟩), .pointer (some ⟨w.heap.size, 0, none⟩)] X fun x Y => x = .returned (.tuple #[]) ∧ VsI w (ys ++ [f.cn]) Y := by
  have hbX := hV.1
  have HEQ : Hid (∀ q : Later X, Calls Tryz.prog 88 #[.slice e.A e.v.length e.c, .slice f.A f.v.length f.c] q.w fun x w'' => x = .returned (.bool false) ∧ ∃ y : Later X, w'' = y.w) := fun q => by
    have hb := hbX.trans (q.h.mono hbX.size)
    refine (equal_c e.A f.A e.c f.c e.v f.v q.w (he.val.below hb) (hf.val.below hb)).mono ?_
    rintro _ _ ⟨rfl, rfl⟩
    exact ⟨by rw [decide_eq_false hq], q, rfl⟩
  have lv1 : ∀ q : Later X, q.w.cell? ⟨g1, o1 + 32, none⟩ = some (.slice e.A e.v.length e.c) := fun q => range_val (range_below hr1 (hbX.trans (q.h.mono hbX.size))) he.key
  have lv2 : ∀ q : Later X, q.w.cell? ⟨g, o + 32, none⟩ = some (.slice f.A f.v.length f.c) := fun q => range_val (range_below hr (hbX.trans (q.h.mono hbX.size))) hf.key
  have HV := Lib.hid hV
  have HFO := Lib.hid hf
  have HRF := Lib.hid hr
  have HYL : Hid (ys.length ≤ 1000000) := by show _ ≤ _; omega
  obtain ⟨xx, hxx⟩ : ∃ xx, xx = En.cn f := ⟨_, rfl⟩
  have HXK : Hid (xx.k.length = 32) := by rw [hxx]; exact HFO.out.key
  have HXO : Hid (CnOk w xx) := by rw [hxx]; exact HFO.out.cn
  have HBL : Hid (∀ w, bldA 69 w #[(0, .agg (bA f.k)), (1, .slice f.A f.v.length f.c)] = .ok (.value (.agg (cnC xx).toArray)) w) := fun w => by rw [hxx]; exact bldCb_put f.k HFO.out.key f.A f.v f.c w
  rw [← hxx]
  clear hxx
  have e1 := eqE_sn
  clear hbX hV he hr1 hf hr hq hl
  go_enter Tryz.func87, Tryz.ntmps87
  go_wp2_with fail
  refine wp_region_later (by kernel_rfl) (by kernel_rfl) ?_
  repeat (go_big_quiet_step ((go_at_call 88; exact HEQ.out _)))
  refine wpQuiet_nil ?_
  rintro _ ⟨x, rfl⟩
  clear e1 lv1 lv2
  obtain ⟨Y, hY⟩ : ∃ Y, Y = x.w := ⟨_, rfl⟩
  have hVY : VsI w ys Y := HV.out.below (by rw [hY]; exact x.h)
  rw [← hY]
  obtain ⟨h0, v, h1, h2, h3⟩ := hVY
  have LV : Hid (∀ q, Below (w.heap.size + 1) Y q → q.cell? ⟨w.heap.size, 0, none⟩ = some v ∧ ldA 31 q (.pointer (some ⟨g, o, none⟩)) = .ok (.value (.agg (bA f.k))) q ∧ q.cell? ⟨g, o + 32, none⟩ = some (.slice f.A f.v.length f.c)) := fun q hq => by
    have hc : q.heap[w.heap.size]? = some (.cells #[v] 47 (0, 0)) := (hq.block _ (Nat.lt_succ_self _)).trans h1
    have hrq := range_below HRF.out (h0.trans (hq.mono (Nat.le_succ _)))
    exact ⟨by rw [cell_of_cells hc]; rfl, range_key hrq HFO.out.key, range_val hrq HFO.out.key⟩
  have bl := HBL.out
  have HVS : Hid (Below w.heap.size w Y ∧ ∀ y ∈ ys, CnOk w y) := ⟨h0, h3⟩
  have HOW := Lib.hid h2
  have HLC := Lib.hid h1
  have HXS : Hid (w.heap.size + 1 ≤ Y.heap.size) := lt_of_heap h1
  clear h0 h1 h2 h3 hY
  go_wp2_with fail
  refine region_heldT 12 (fun q => Below (w.heap.size + 1) Y q) (by kernel_rfl) ?_
  have hHeld : Below (w.heap.size + 1) Y Y.drew := (Below.refl _ _).drew
  refine HeldT.take (i := 0) (oi := { dst := some 31, op := .load _ (.tmp 2), type := _, pos := _, after := _, guard := _ }) (v := ?_) rfl (by kernel_rfl) (by kernel_rfl) (by kernel_rfl) (by kernel_rfl) (fun _ _ _ h => h) (Or.inl ⟨by rfl, ?_⟩) (by assumption) ?_
  rotate_left 1
  · intro v hSv
    have hv1 := LV.out v hSv |>.1
    clear hSv
    go_simp
    try with_reducible rfl
  try simp only [Act.put, List.setIfInBounds_toArray, List.set_cons_zero, List.set_cons_succ]
  refine HeldT.take (i := 1) (oi := { dst := some 32, op := .move (.tmp 1), type := _, pos := _, after := _, guard := _ }) (v := ?_) rfl (by kernel_rfl) (by kernel_rfl) (by kernel_rfl) (by kernel_rfl) (fun _ _ _ h => h) (Or.inl ⟨by rfl, ?_⟩) (by assumption) ?_
  rotate_left 1
  · intro v hSv
    clear hSv
    go_simp
    try with_reducible rfl
  try simp only [Act.put, List.setIfInBounds_toArray, List.set_cons_zero, List.set_cons_succ]
  refine HeldT.take (i := 2) (oi := { dst := some 33, op := .nilCheck (.tmp 32), type := _, pos := _, after := _, guard := _ }) (v := ?_) rfl (by kernel_rfl) (by kernel_rfl) (by kernel_rfl) (by kernel_rfl) (fun _ _ _ h => h) (Or.inl ⟨by rfl, ?_⟩) (by assumption) ?_
  rotate_left 1
  · intro v hSv
    clear hSv
    go_simp
    try with_reducible rfl
  try simp only [Act.put, List.setIfInBounds_toArray, List.set_cons_zero, List.set_cons_succ]
  refine HeldT.take (i := 3) (oi := { dst := some 34, op := .fieldAddr _ (.tmp 33) 0, type := _, pos := _, after := _, guard := _ }) (v := ?_) rfl (by kernel_rfl) (by kernel_rfl) (by kernel_rfl) (by kernel_rfl) (fun _ _ _ h => h) (Or.inl ⟨by rfl, ?_⟩) (by assumption) ?_
  rotate_left 1
  · intro v hSv
    clear hSv
    go_simp
    try with_reducible rfl
  try simp only [Act.put, List.setIfInBounds_toArray, List.set_cons_zero, List.set_cons_succ]
  refine HeldT.take (i := 4) (oi := { dst := some 35, op := .load _ (.tmp 34), type := _, pos := _, after := _, guard := _ }) (v := ?_) rfl (by kernel_rfl) (by kernel_rfl) (by kernel_rfl) (by kernel_rfl) (fun _ _ _ h => h) (Or.inl ⟨by rfl, ?_⟩) (by assumption) ?_
  rotate_left 1
  · intro v hSv
    have hv1 := LV.out v hSv |>.2.1
    clear hSv
    go_simp
    try with_reducible rfl
  try simp only [Act.put, List.setIfInBounds_toArray, List.set_cons_zero, List.set_cons_succ]
  refine HeldT.take (i := 5) (oi := { dst := some 36, op := .move (.tmp 1), type := _, pos := _, after := _, guard := _ }) (v := ?_) rfl (by kernel_rfl) (by kernel_rfl) (by kernel_rfl) (by kernel_rfl) (fun _ _ _ h => h) (Or.inl ⟨by rfl, ?_⟩) (by assumption) ?_
  rotate_left 1
  · intro v hSv
    clear hSv
    go_simp
    try with_reducible rfl
  try simp only [Act.put, List.setIfInBounds_toArray, List.set_cons_zero, List.set_cons_succ]
  refine HeldT.take (i := 6) (oi := { dst := some 37, op := .nilCheck (.tmp 36), type := _, pos := _, after := _, guard := _ }) (v := ?_) rfl (by kernel_rfl) (by kernel_rfl) (by kernel_rfl) (by kernel_rfl) (fun _ _ _ h => h) (Or.inl ⟨by rfl, ?_⟩) (by assumption) ?_
  rotate_left 1
  · intro v hSv
    clear hSv
    go_simp
    try with_reducible rfl
  try simp only [Act.put, List.setIfInBounds_toArray, List.set_cons_zero, List.set_cons_succ]
  refine HeldT.take (i := 7) (oi := { dst := some 38, op := .fieldAddr _ (.tmp 37) 1, type := _, pos := _, after := _, guard := _ }) (v := ?_) rfl (by kernel_rfl) (by kernel_rfl) (by kernel_rfl) (by kernel_rfl) (fun _ _ _ h => h) (Or.inl ⟨by rfl, ?_⟩) (by assumption) ?_
  rotate_left 1
  · intro v hSv
    clear hSv
    go_simp
    try with_reducible rfl
  try simp only [Act.put, List.setIfInBounds_toArray, List.set_cons_zero, List.set_cons_succ]
  refine HeldT.take (i := 8) (oi := { dst := some 39, op := .load _ (.tmp 38), type := _, pos := _, after := _, guard := _ }) (v := ?_) rfl (by kernel_rfl) (by kernel_rfl) (by kernel_rfl) (by kernel_rfl) (fun _ _ _ h => h) (Or.inl ⟨by rfl, ?_⟩) (by assumption) ?_
  rotate_left 1
  · intro v hSv
    have hv1 := LV.out v hSv |>.2.2
    clear hSv
    go_simp
    try with_reducible rfl
  try simp only [Act.put, List.setIfInBounds_toArray, List.set_cons_zero, List.set_cons_succ]
  refine HeldT.take (i := 9) (oi := { dst := some 40, op := .build _ #[(0, .tmp 35), (1, .tmp 39)], type := _, pos := _, after := _, guard := _ }) (v := ?_) rfl (by kernel_rfl) (by kernel_rfl) (by kernel_rfl) (by kernel_rfl) (fun _ _ _ h => h) (Or.inl ⟨by rfl, ?_⟩) (by assumption) ?_
  rotate_left 1
  · intro v hSv
    have hv1 := bl v
    clear hSv
    go_simp
    try with_reducible rfl
  try simp only [Act.put, List.setIfInBounds_toArray, List.set_cons_zero, List.set_cons_succ]
  refine HeldT.one (i := 10) (o := { dst := some 41, op := .buildSlice _ _ _, type := _, pos := _, after := _, guard := _ }) (by kernel_rfl) rfl rfl (fun K hK => ?_)
  obtain ⟨Z, hZ⟩ : ∃ Z, Z = (Y.alloc (.cells (cnC xx).toArray 69)).drew := ⟨_, rfl⟩
  have hq1 : Below (w.heap.size + 1) Y Z := by rw [hZ]; exact ((Below.refl _ _).alloc HXS.out _).drew
  have hbz : Below Y.heap.size Y Z := by rw [hZ]; exact ((Below.refl _ _).alloc (Nat.le_refl _) _).drew
  have hrg : Z.rangeAt Y.heap.size 0 (cnC xx) := by rw [hZ]; exact (World.rangeAt_drew _ _ _ _).2 (cn_made Y xx _)
  have HQ1 := Lib.hid hq1
  have HBZ := Lib.hid hbz
  have HRG := Lib.hid hrg
  have HZ := Lib.hid hZ
  clear hZ hbz hrg
  have bs := bsCb_one xx HXK.out
  go_wp2_with fail
  rw [← HZ.out]
  refine hK.out _ _ (fun _ => hq1) (fun hS => ?_)
  have hHeld := hS (by decide)
  clear hS hK K
  try simp only [Act.put, List.setIfInBounds_toArray, List.set_cons_zero, List.set_cons_succ]
  clear hq1 HZ bs
  refine HeldT.one (i := 11) (o := { dst := some 42, op := .call _, type := _, pos := _, after := _, guard := _ }) (by kernel_rfl) rfl rfl (fun K hK => ?_)
  have HOZ := Lib.hid (OwnC.below HOW.out HBZ.out)
  have hzs : w.heap.size + 1 ≤ Z.heap.size := Nat.le_trans HXS.out HBZ.out.size
  go_wp2_with (at_builtin; refine wpList_pushC Tryz.underlying47 infoCb rfl _ _ rfl (w.heap.size + 1) v ys rfl HOZ.out Y.heap.size xx HXK.out rfl HRG.out HYL.out hzs ?_; intro v9 w9 hO9 hG9)
  have hb9 : Below (w.heap.size + 1) Z w9 := (Below.refl _ _).grown hG9.by_ hzs fun k hk => (row11_lt HOZ.out k hk).1
  have hq9 := HQ1.out.trans hb9
  have HO9 := Lib.hid hO9
  have HQ9 := Lib.hid hq9
  clear hO9 hG9 hb9 hzs
  refine hK.out _ _ (fun _ => hq9) (fun hS => ?_)
  have hHeld := hS (by decide)
  clear hS hK K
  try simp only [Act.put, List.setIfInBounds_toArray, List.set_cons_zero, List.set_cons_succ]
  clear hq9 HOZ HQ1 HBZ HRG
  refine HeldT.one (i := 12) (o := { dst := none, op := .store _ (.tmp 2) (.tmp 42), type := _, pos := _, after := _, guard := _ }) (by kernel_rfl) rfl rfl (fun K hK => ?_)
  have hc9 : w9.heap[w.heap.size]? = some (.cells #[v] 47 (0, 0)) := (HQ9.out.block _ (Nat.lt_succ_self _)).trans HLC.out
  have s1 : w9.cell? ⟨w.heap.size, 0, none⟩ = some v := by rw [cell_of_cells hc9]; rfl
  have s2 : w9.frozen? ⟨w.heap.size, 0, none⟩ = false := frozen_of_row w9 _ _ _ _ hc9
  obtain ⟨A9, c9, rfl, _⟩ := HO9.out.len
  obtain ⟨n9, hn9⟩ : ∃ n, n = (ys ++ [xx]).length := ⟨_, rfl⟩
  have HN9 := Lib.hid hn9
  have HC9 := Lib.hid hc9
  rw [← hn9]
  clear hn9 hc9
  go_wp2_with fail
  refine hK.out _ _ (fun h => absurd rfl h) (fun _ => ?_)
  clear hK K
  refine HeldT.done (by kernel_rfl) ?_ _
  go_wp2_with fail
  refine bodyPost_end (results_none rfl _ _ _) rfl ⟨rfl, ?_⟩
  rw [HN9.out]
  exact VsI.push12 HVS.out.1 HVS.out.2 HQ9.out HC9.out HO9.out HXO.out
end Go.Proofs.YtaajnjddfcdeaaaGreatDoor

/- The program's merge of two lists of entries. -/
namespace Go.Proofs.YtaajnjddfcdeaaaGreatDoor
open Go.RowKit Go.Shelf

theorem cutOne {A : Option Addr} {n c : Nat} (w : World) : (Instr.sliceAt 22 (.slice A (n + 1) c) (some (.int .i64 1)) none none).run Tryz.prog w = .ok (.slice (cutA A c 1) n (c - 1)) w := by
  have h := cutE_from A (n + 1) c 1 (by omega) w
  rw [Nat.add_sub_cancel] at h
  exact h
/-- What is kept between the rounds. -/
structure MgI (w : World) (tot : List Chg) (A B : Option Addr) (ca cb : Nat) (es fs : List En) (ys : List Cn) (X : World) : Prop where
  ea : EA w A es
  eb : EA w B fs
  la : es.length ≤ ca
  lb : fs.length ≤ cb
  vs : VsI w ys X
  mg : ys.map Cn.chg ++ mergeC (es.map En.ent) (fs.map En.ent) = tot
  ln : ys.length + es.length + fs.length ≤ 300
theorem MgI.lt {w : World} {tot : List Chg} {A B : Option Addr} {ca cb : Nat} {e f : En} {es fs : List En} {ys : List Cn} {X Y : World} (h : MgI w tot A B ca cb (e :: es) (f :: fs) ys X) (hc : cmpK e.k f.k < 0) (hv : VsI w (ys ++ [delC e]) Y) : MgI w tot (cutA A ca 1) B (ca - 1) cb es (f :: fs) (ys ++ [delC e]) Y where
  ea := by have := h.ea.cut (c := ca) (n := 1) h.la; exact this
  eb := h.eb
  la := by have := h.la; rw [List.length_cons] at this; omega
  lb := h.lb
  vs := hv
  mg := by
    have h1 := h.mg
    rw [List.map_cons, List.map_cons, mergeC, if_pos (show cmpK e.ent.k f.ent.k < 0 from hc)] at h1
    rw [List.map_append, List.append_assoc, List.map_cons]
    exact h1
  ln := by have := h.ln; rw [List.length_append]; simp at this ⊢; omega
theorem MgI.gt {w : World} {tot : List Chg} {A B : Option Addr} {ca cb : Nat} {e f : En} {es fs : List En} {ys : List Cn} {X Y : World} (h : MgI w tot A B ca cb (e :: es) (f :: fs) ys X) (hc : 0 < cmpK e.k f.k) (hv : VsI w (ys ++ [f.cn]) Y) : MgI w tot A (cutA B cb 1) ca (cb - 1) (e :: es) fs (ys ++ [f.cn]) Y where
  ea := h.ea
  eb := by have := h.eb.cut (c := cb) (n := 1) h.lb; exact this
  la := h.la
  lb := by have := h.lb; rw [List.length_cons] at this; omega
  vs := hv
  mg := by
    have h1 := h.mg
    rw [List.map_cons, List.map_cons, mergeC, if_neg (show ¬ cmpK e.ent.k f.ent.k < 0 by show ¬ cmpK e.k f.k < 0; omega), if_pos (show 0 < cmpK e.ent.k f.ent.k from hc)] at h1
    rw [List.map_append, List.append_assoc, List.map_cons]
    exact h1
  ln := by have := h.ln; rw [List.length_append]; simp at this ⊢; omega
theorem MgI.eq {w : World} {tot : List Chg} {A B : Option Addr} {ca cb : Nat} {e f : En} {es fs : List En} {ys zs : List Cn} {X Y : World} (h : MgI w tot A B ca cb (e :: es) (f :: fs) ys X) (hc : cmpK e.k f.k = 0) (hz : zs.map Cn.chg = if e.v = f.v then [] else [⟨f.k, f.v, false⟩]) (hv : VsI w (ys ++ zs) Y) : MgI w tot (cutA A ca 1) (cutA B cb 1) (ca - 1) (cb - 1) es fs (ys ++ zs) Y where
  ea := by have := h.ea.cut (c := ca) (n := 1) h.la; exact this
  eb := by have := h.eb.cut (c := cb) (n := 1) h.lb; exact this
  la := by have := h.la; rw [List.length_cons] at this; omega
  lb := by have := h.lb; rw [List.length_cons] at this; omega
  vs := hv
  mg := by
    have h1 := h.mg
    rw [List.map_cons, List.map_cons, mergeC, if_neg (show ¬ cmpK e.ent.k f.ent.k < 0 by show ¬ cmpK e.k f.k < 0; omega), if_neg (show ¬ 0 < cmpK e.ent.k f.ent.k by show ¬ 0 < cmpK e.k f.k; omega)] at h1
    rw [List.map_append, List.append_assoc, hz]
    exact h1
  ln := by
    have h1 := congrArg List.length hz
    rw [List.length_map] at h1
    have h2 : zs.length ≤ 1 := by rw [h1]; split <;> simp
    have := h.ln; rw [List.length_append]; simp at this ⊢; omega
def ordV : Value := .func (.func 84) #[] #[]
def visV (w : World) : Value := .func (.func 87) #[] #[.pointer (some ⟨w.heap.size, 0, none⟩)]
set_option maxHeartbeats 16000000 in
set_option maxRecDepth 100000 in
theorem merge_c (w X : World) (A B : Option Addr) (ca cb : Nat) (es fs : List En) (hV : VsI w [] X) (hA : EA w A es) (hB : EA w B fs) (hca : es.length ≤ ca) (hcb : fs.length ≤ cb) (hl : es.length ≤ 100) (hm : fs.length ≤ 100) :
    Calls Tryz.prog 86 #[.slice A es.length ca, .slice B fs.length cb, ordV, visV w] X fun e Y => e = .returned (.tuple #[]) ∧ ∃ ys, VsI w ys Y ∧ ys.map Cn.chg = mergeC (es.map En.ent) (fs.map En.ent) := by
  obtain ⟨tot, ht⟩ : ∃ tot, tot = mergeC (es.map En.ent) (fs.map En.ent) := ⟨_, rfl⟩
  rw [← ht]
  have HI0 : Hid (MgI w tot A B ca cb es fs [] X) := ⟨hA, hB, hca, hcb, hV, by rw [ht]; rfl, by simp; omega⟩
  have hna : es.length ≤ 100 := hl
  have hnb : fs.length ≤ 100 := hm
  unfold ordV visV
  clear hV hA hB hca hcb hl hm ht
  go_enter Tryz.func86, Tryz.ntmps86
  go_wp2_with fail
  go_loopg [0, 1] (es.length + fs.length) (fun gg av bv' wr => ∃ (A' B' : Option Addr) (ca' cb' : Nat) (es' fs' : List En) (ys : List Cn), av = .slice A' es'.length ca' ∧ bv' = .slice B' fs'.length cb' ∧ es'.length + fs'.length = gg ∧ es'.length ≤ 100 ∧ fs'.length ≤ 100 ∧ Hid (MgI w tot A' B' ca' cb' es' fs' ys wr))
  case atStart => exact ⟨A, B, ca, cb, es, fs, [], rfl, rfl, rfl, hna, hnb, HI0.out⟩
  case round =>
    obtain ⟨A', B', ca', cb', es', fs', ys, rfl, rfl, rfl, hn1, hn2, HI⟩ := hrel
    by_cases h1 : es'.length = 0
    · have HE : Hid (es' = [] ∨ fs' = []) := .inl (List.length_eq_zero_iff.1 h1)
      have d1 : decide (0 < es'.length) = false := decide_eq_false (by omega)
      clear h1
      go_wp2_with fail
      clear d1
      go_loopg [57] es'.length (fun gg iv wr2 => ∃ (i : Nat) (ys2 : List Cn), iv = .int .i64 (i : Int) ∧ i ≤ es'.length ∧ es'.length - i = gg ∧ Hid (VsI w ys2 wr2 ∧ ys2.map Cn.chg ++ mergeC ((es'.drop i).map En.ent) (fs'.map En.ent) = tot ∧ ys2.length + (es'.length - i) + fs'.length ≤ 300))
      case atStart => exact ⟨0, ys, rfl, by omega, by omega, HI.out.vs, HI.out.mg, HI.out.ln⟩
      case round =>
        obtain ⟨i, ys2, rfl, hi, rfl, HR⟩ := hrel
        by_cases hlt : i < es'.length
        · have hd : decide (i < es'.length) = true := decide_eq_true hlt
          obtain ⟨e, he⟩ : ∃ e, es'[i]? = some e := ⟨_, List.getElem?_eq_getElem hlt⟩
          obtain ⟨hok, g, o, hA, hr⟩ := HI.out.ea i e he
          have HAA := Lib.hid hA
          have HVI := Lib.hid (visit_del w wr ys2 g (o + i * 33) e HR.out.1 hok hr (by have := HR.out.2.2; omega))
          have HNX : Hid ((ys2 ++ [delC e]).map Cn.chg ++ mergeC ((es'.drop (i + 1)).map En.ent) (fs'.map En.ent) = tot ∧ (ys2 ++ [delC e]).length + (es'.length - (i + 1)) + fs'.length ≤ 300) := by
            obtain ⟨q1, q2, q3⟩ := HR.out
            have hf0 : fs' = [] := by
              rcases HE.out with h | h
              · rw [h] at hlt; simp at hlt
              · exact h
            obtain ⟨h1, rfl⟩ := List.getElem?_eq_some_iff.1 he
            rw [List.drop_eq_getElem_cons h1, List.map_cons, hf0, List.map_nil, mergeC] at q2
            refine ⟨?_, by rw [List.length_append, List.length_singleton]; omega⟩
            rw [List.map_append, List.append_assoc, hf0, List.map_nil]
            exact q2
          have p0 : (0 : Int) ≤ (i : Int) := by omega
          have p1 : (i : Int) < (es'.length : Int) := by omega
          rw [HAA.out]
          clear he hok hr HR hA
          go_wp2_with fail
          refine HVI.out.mono ?_
          rintro _ w5 ⟨rfl, hv5⟩
          have HV5 := Lib.hid hv5
          clear hv5 HVI
          go_wp2_with fail
          rw [← HAA.out]
          go_roundg (es'.length - (i + 1))
          case measure => omega
          case rel => exact ⟨i + 1, ys2 ++ [delC e], by go_num, by omega, rfl, HV5.out, HNX.out⟩
        · obtain rfl : i = es'.length := by omega
          have hd : decide (es'.length < es'.length) = false := decide_eq_false (by omega)
          have HF2 : Hid (VsI w ys2 wr ∧ ys2.map Cn.chg ++ mergeC [] (fs'.map En.ent) = tot ∧ ys2.length + fs'.length ≤ 300) := by
            obtain ⟨q1, q2, q3⟩ := HR.out
            rw [List.drop_length, List.map_nil] at q2
            exact ⟨q1, q2, by omega⟩
          clear HR hlt
          go_wp2_with fail
          clear hd
          go_loopg [68] fs'.length (fun gg iv wr3 => ∃ (i : Nat) (ys3 : List Cn), iv = .int .i64 (i : Int) ∧ i ≤ fs'.length ∧ fs'.length - i = gg ∧ Hid (VsI w ys3 wr3 ∧ ys3.map Cn.chg ++ mergeC [] ((fs'.drop i).map En.ent) = tot ∧ ys3.length + (fs'.length - i) ≤ 300))
          case atStart => exact ⟨0, ys2, rfl, by omega, by omega, by obtain ⟨q1, q2, q3⟩ := HF2.out; exact ⟨q1, q2, q3⟩⟩
          case round =>
            obtain ⟨i, ys3, rfl, hi, rfl, HR⟩ := hrel
            by_cases hlt : i < fs'.length
            · have hd : decide (i < fs'.length) = true := decide_eq_true hlt
              obtain ⟨f, hf⟩ : ∃ f, fs'[i]? = some f := ⟨_, List.getElem?_eq_getElem hlt⟩
              obtain ⟨hok, g, o, hA, hr⟩ := HI.out.eb i f hf
              have HAA := Lib.hid hA
              have HVI := Lib.hid (visit_new w wr ys3 g (o + i * 33) f HR.out.1 hok hr (by have := HR.out.2.2; omega))
              have HNX : Hid ((ys3 ++ [f.cn]).map Cn.chg ++ mergeC [] ((fs'.drop (i + 1)).map En.ent) = tot ∧ (ys3 ++ [f.cn]).length + (fs'.length - (i + 1)) ≤ 300) := by
                obtain ⟨q1, q2, q3⟩ := HR.out
                obtain ⟨h1, rfl⟩ := List.getElem?_eq_some_iff.1 hf
                rw [List.drop_eq_getElem_cons h1, List.map_cons, mergeC] at q2
                refine ⟨?_, by rw [List.length_append, List.length_singleton]; omega⟩
                rw [List.map_append, List.append_assoc]
                exact q2
              have p0 : (0 : Int) ≤ (i : Int) := by omega
              have p1 : (i : Int) < (fs'.length : Int) := by omega
              rw [HAA.out]
              clear hf hok hr HR hA
              go_wp2_with fail
              refine HVI.out.mono ?_
              rintro _ w5 ⟨rfl, hv5⟩
              have HV5 := Lib.hid hv5
              clear hv5 HVI
              go_wp2_with fail
              rw [← HAA.out]
              go_roundg (fs'.length - (i + 1))
              case measure => omega
              case rel => exact ⟨i + 1, ys3 ++ [f.cn], by go_num, by omega, rfl, HV5.out, HNX.out⟩
            · obtain rfl : i = fs'.length := by omega
              have hd : decide (fs'.length < fs'.length) = false := decide_eq_false (by omega)
              have HF3 : Hid (VsI w ys3 wr ∧ ys3.map Cn.chg = tot) := by
                obtain ⟨q1, q2, _⟩ := HR.out
                rw [List.drop_length, List.map_nil, mergeC, List.append_nil] at q2
                exact ⟨q1, q2⟩
              clear HR hlt
              go_wp2_with fail
              refine bodyPost_end (results_none rfl _ _ _) rfl ⟨rfl, ys3, HF3.out⟩
    by_cases h2 : fs'.length = 0
    · have HE : Hid (es' = [] ∨ fs' = []) := .inr (List.length_eq_zero_iff.1 h2)
      have d1 : decide (0 < es'.length) = true := decide_eq_true (by omega)
      have d2 : decide (0 < fs'.length) = false := decide_eq_false (by omega)
      clear h1 h2
      go_wp2_with fail
      clear d1 d2
      go_loopg [57] es'.length (fun gg iv wr2 => ∃ (i : Nat) (ys2 : List Cn), iv = .int .i64 (i : Int) ∧ i ≤ es'.length ∧ es'.length - i = gg ∧ Hid (VsI w ys2 wr2 ∧ ys2.map Cn.chg ++ mergeC ((es'.drop i).map En.ent) (fs'.map En.ent) = tot ∧ ys2.length + (es'.length - i) + fs'.length ≤ 300))
      case atStart => exact ⟨0, ys, rfl, by omega, by omega, HI.out.vs, HI.out.mg, HI.out.ln⟩
      case round =>
        obtain ⟨i, ys2, rfl, hi, rfl, HR⟩ := hrel
        by_cases hlt : i < es'.length
        · have hd : decide (i < es'.length) = true := decide_eq_true hlt
          obtain ⟨e, he⟩ : ∃ e, es'[i]? = some e := ⟨_, List.getElem?_eq_getElem hlt⟩
          obtain ⟨hok, g, o, hA, hr⟩ := HI.out.ea i e he
          have HAA := Lib.hid hA
          have HVI := Lib.hid (visit_del w wr ys2 g (o + i * 33) e HR.out.1 hok hr (by have := HR.out.2.2; omega))
          have HNX : Hid ((ys2 ++ [delC e]).map Cn.chg ++ mergeC ((es'.drop (i + 1)).map En.ent) (fs'.map En.ent) = tot ∧ (ys2 ++ [delC e]).length + (es'.length - (i + 1)) + fs'.length ≤ 300) := by
            obtain ⟨q1, q2, q3⟩ := HR.out
            have hf0 : fs' = [] := by
              rcases HE.out with h | h
              · rw [h] at hlt; simp at hlt
              · exact h
            obtain ⟨h1, rfl⟩ := List.getElem?_eq_some_iff.1 he
            rw [List.drop_eq_getElem_cons h1, List.map_cons, hf0, List.map_nil, mergeC] at q2
            refine ⟨?_, by rw [List.length_append, List.length_singleton]; omega⟩
            rw [List.map_append, List.append_assoc, hf0, List.map_nil]
            exact q2
          have p0 : (0 : Int) ≤ (i : Int) := by omega
          have p1 : (i : Int) < (es'.length : Int) := by omega
          rw [HAA.out]
          clear he hok hr HR hA
          go_wp2_with fail
          refine HVI.out.mono ?_
          rintro _ w5 ⟨rfl, hv5⟩
          have HV5 := Lib.hid hv5
          clear hv5 HVI
          go_wp2_with fail
          rw [← HAA.out]
          go_roundg (es'.length - (i + 1))
          case measure => omega
          case rel => exact ⟨i + 1, ys2 ++ [delC e], by go_num, by omega, rfl, HV5.out, HNX.out⟩
        · obtain rfl : i = es'.length := by omega
          have hd : decide (es'.length < es'.length) = false := decide_eq_false (by omega)
          have HF2 : Hid (VsI w ys2 wr ∧ ys2.map Cn.chg ++ mergeC [] (fs'.map En.ent) = tot ∧ ys2.length + fs'.length ≤ 300) := by
            obtain ⟨q1, q2, q3⟩ := HR.out
            rw [List.drop_length, List.map_nil] at q2
            exact ⟨q1, q2, by omega⟩
          clear HR hlt
          go_wp2_with fail
          clear hd
          go_loopg [68] fs'.length (fun gg iv wr3 => ∃ (i : Nat) (ys3 : List Cn), iv = .int .i64 (i : Int) ∧ i ≤ fs'.length ∧ fs'.length - i = gg ∧ Hid (VsI w ys3 wr3 ∧ ys3.map Cn.chg ++ mergeC [] ((fs'.drop i).map En.ent) = tot ∧ ys3.length + (fs'.length - i) ≤ 300))
          case atStart => exact ⟨0, ys2, rfl, by omega, by omega, by obtain ⟨q1, q2, q3⟩ := HF2.out; exact ⟨q1, q2, q3⟩⟩
          case round =>
            obtain ⟨i, ys3, rfl, hi, rfl, HR⟩ := hrel
            by_cases hlt : i < fs'.length
            · have hd : decide (i < fs'.length) = true := decide_eq_true hlt
              obtain ⟨f, hf⟩ : ∃ f, fs'[i]? = some f := ⟨_, List.getElem?_eq_getElem hlt⟩
              obtain ⟨hok, g, o, hA, hr⟩ := HI.out.eb i f hf
              have HAA := Lib.hid hA
              have HVI := Lib.hid (visit_new w wr ys3 g (o + i * 33) f HR.out.1 hok hr (by have := HR.out.2.2; omega))
              have HNX : Hid ((ys3 ++ [f.cn]).map Cn.chg ++ mergeC [] ((fs'.drop (i + 1)).map En.ent) = tot ∧ (ys3 ++ [f.cn]).length + (fs'.length - (i + 1)) ≤ 300) := by
                obtain ⟨q1, q2, q3⟩ := HR.out
                obtain ⟨h1, rfl⟩ := List.getElem?_eq_some_iff.1 hf
                rw [List.drop_eq_getElem_cons h1, List.map_cons, mergeC] at q2
                refine ⟨?_, by rw [List.length_append, List.length_singleton]; omega⟩
                rw [List.map_append, List.append_assoc]
                exact q2
              have p0 : (0 : Int) ≤ (i : Int) := by omega
              have p1 : (i : Int) < (fs'.length : Int) := by omega
              rw [HAA.out]
              clear hf hok hr HR hA
              go_wp2_with fail
              refine HVI.out.mono ?_
              rintro _ w5 ⟨rfl, hv5⟩
              have HV5 := Lib.hid hv5
              clear hv5 HVI
              go_wp2_with fail
              rw [← HAA.out]
              go_roundg (fs'.length - (i + 1))
              case measure => omega
              case rel => exact ⟨i + 1, ys3 ++ [f.cn], by go_num, by omega, rfl, HV5.out, HNX.out⟩
            · obtain rfl : i = fs'.length := by omega
              have hd : decide (fs'.length < fs'.length) = false := decide_eq_false (by omega)
              have HF3 : Hid (VsI w ys3 wr ∧ ys3.map Cn.chg = tot) := by
                obtain ⟨q1, q2, _⟩ := HR.out
                rw [List.drop_length, List.map_nil, mergeC, List.append_nil] at q2
                exact ⟨q1, q2⟩
              clear HR hlt
              go_wp2_with fail
              refine bodyPost_end (results_none rfl _ _ _) rfl ⟨rfl, ys3, HF3.out⟩
    match es', fs', h1, h2, hn1, hn2, HI with
    | e :: es2, f :: fs2, _, _, hn1, hn2, HI =>
      obtain ⟨ho1, g1, o1, hA1, hr1⟩ := HI.out.ea 0 e rfl
      obtain ⟨ho2, g2, o2, hA2, hr2⟩ := HI.out.eb 0 f rfl
      subst hA1 hA2
      rw [Nat.zero_mul, Nat.add_zero] at hr1 hr2
      have HO1 := Lib.hid ho1
      have HO2 := Lib.hid ho2
      have HR1 := Lib.hid hr1
      have HR2 := Lib.hid hr2
      have hn3 : es2.length ≤ 99 := by rw [List.length_cons] at hn1; omega
      have hn4 : fs2.length ≤ 99 := by rw [List.length_cons] at hn2; omega
      have HYL : Hid (ys.length ≤ 1000) := by show _ ≤ _; have := HI.out.ln; omega
      rw [List.length_cons, List.length_cons]
      clear ho1 ho2 hr1 hr2 hn1 hn2
      rcases cmpK_range e.k f.k with hc | hc | hc
      · have HC : Hid (cmpK e.k f.k < 0) := by show _ < _; omega
        have d1 : decide (0 < es2.length + 1) = true := decide_eq_true (by omega)
        have d2 : decide (0 < fs2.length + 1) = true := decide_eq_true (by omega)
        have le1 : ∀ q : Later wr, ldA 34 q.w (.pointer (some ⟨g1, o1, none⟩)) = .ok (.value (.agg (enC e).toArray)) q.w := fun q => range_ent (range_below HR1.out (HI.out.vs.1.trans (q.h.mono HI.out.vs.1.size))) HO1.out.key
        have le2 : ∀ q : Later wr, ldA 34 q.w (.pointer (some ⟨g2, o2, none⟩)) = .ok (.value (.agg (enC f).toArray)) q.w := fun q => range_ent (range_below HR2.out (HI.out.vs.1.trans (q.h.mono HI.out.vs.1.size))) HO2.out.key
        have HORD : Hid (∀ q : Later wr, Calls Tryz.prog 84 #[.agg (enC e).toArray, .agg (enC f).toArray] q.w fun x w'' => x = .returned (.int .i64 (-1)) ∧ ∃ y : Later wr, w'' = y.w) := fun q => by
          have h := order_c e f HO1.out.key HO2.out.key q.w
          rw [hc] at h
          exact Later.call h
        have p1 : (0 : Int) < (es2.length : Int) + 1 := by omega
        have p2 : (0 : Int) < (fs2.length : Int) + 1 := by omega
        go_wp2_with fail
        refine wp_region_later (by kernel_rfl) (by kernel_rfl) ?_
        repeat (go_big_quiet_step ((go_at_call 84; exact HORD.out _)))
        refine wpQuiet_nil ?_
        rintro _ ⟨x, rfl⟩
        clear le1 le2 HORD
        obtain ⟨Y, hY⟩ : ∃ Y, Y = x.w := ⟨_, rfl⟩
        have hvY : VsI w ys Y := HI.out.vs.below (by rw [hY]; exact x.h)
        rw [← hY]
        have HVY := Lib.hid hvY
        clear hvY hY
        clear hc
        have HVI := Lib.hid (visit_del w Y ys g1 o1 e HVY.out HO1.out HR1.out HYL.out)
        go_wp2_with fail
        refine HVI.out.mono ?_
        rintro _ w5 ⟨rfl, hv5⟩
        have HV5 := Lib.hid hv5
        clear hv5 HVI
        have cut1 := fun v => cutOne (A := some ⟨g1, o1, none⟩) (n := es2.length) (c := ca') v
        go_wp2_with fail
        go_roundg (es2.length + (fs2.length + 1))
        case measure => (simp only [List.length_cons]; omega)
        case rel => exact ⟨cutA (some ⟨g1, o1, none⟩) ca' 1, some ⟨g2, o2, none⟩, ca' - 1, cb', es2, f :: fs2, ys ++ [delC e], rfl, rfl, rfl, by omega, by rw [List.length_cons]; omega, HI.out.lt HC.out HV5.out⟩
      · have HC : Hid (cmpK e.k f.k = 0) := hc
        by_cases hv : e.v = f.v
        · have HZ : Hid (([] : List Cn).map Cn.chg = if e.v = f.v then [] else [⟨f.k, f.v, false⟩]) := by show _ = _; rw [if_pos hv]; rfl
          have d1 : decide (0 < es2.length + 1) = true := decide_eq_true (by omega)
          have d2 : decide (0 < fs2.length + 1) = true := decide_eq_true (by omega)
          have le1 : ∀ q : Later wr, ldA 34 q.w (.pointer (some ⟨g1, o1, none⟩)) = .ok (.value (.agg (enC e).toArray)) q.w := fun q => range_ent (range_below HR1.out (HI.out.vs.1.trans (q.h.mono HI.out.vs.1.size))) HO1.out.key
          have le2 : ∀ q : Later wr, ldA 34 q.w (.pointer (some ⟨g2, o2, none⟩)) = .ok (.value (.agg (enC f).toArray)) q.w := fun q => range_ent (range_below HR2.out (HI.out.vs.1.trans (q.h.mono HI.out.vs.1.size))) HO2.out.key
          have HORD : Hid (∀ q : Later wr, Calls Tryz.prog 84 #[.agg (enC e).toArray, .agg (enC f).toArray] q.w fun x w'' => x = .returned (.int .i64 (0)) ∧ ∃ y : Later wr, w'' = y.w) := fun q => by
            have h := order_c e f HO1.out.key HO2.out.key q.w
            rw [hc] at h
            exact Later.call h
          have p1 : (0 : Int) < (es2.length : Int) + 1 := by omega
          have p2 : (0 : Int) < (fs2.length : Int) + 1 := by omega
          go_wp2_with fail
          refine wp_region_later (by kernel_rfl) (by kernel_rfl) ?_
          repeat (go_big_quiet_step ((go_at_call 84; exact HORD.out _)))
          refine wpQuiet_nil ?_
          rintro _ ⟨x, rfl⟩
          clear le1 le2 HORD
          obtain ⟨Y, hY⟩ : ∃ Y, Y = x.w := ⟨_, rfl⟩
          have hvY : VsI w ys Y := HI.out.vs.below (by rw [hY]; exact x.h)
          rw [← hY]
          have HVY := Lib.hid hvY
          clear hvY hY
          clear hc
          have HVI := Lib.hid (visit_same w Y.drew ys g1 o1 g2 o2 e f (HVY.out.below (Below.refl _ _).drew) HO1.out HR1.out HO2.out HR2.out hv)
          clear hv
          go_wp2_with fail
          refine wp_region_held_drew (S := fun w' => True) (by kernel_rfl) (trivial) (fun hHeld => ?_)
          have hb0 : True := trivial
          refine wpAnyH_take (i := 0) (oi := { dst := some 27, op := .move (.tmp 3), type := _, pos := _, after := _, guard := _ }) (v := ?_) rfl (by kernel_rfl) (by kernel_rfl) (by kernel_rfl) (fun _ _ _ h => h) (Or.inl ⟨by rfl, ?_⟩) (by assumption) ?_
          rotate_left 1
          · intro v hSv
            clear hSv
            go_simp
            try with_reducible rfl
          try simp only [Act.put, List.setIfInBounds_toArray, List.set_cons_zero, List.set_cons_succ]
          refine wpAnyH_take (i := 1) (oi := { dst := some 28, op := .move (.tmp 0), type := _, pos := _, after := _, guard := _ }) (v := ?_) rfl (by kernel_rfl) (by kernel_rfl) (by kernel_rfl) (fun _ _ _ h => h) (Or.inl ⟨by rfl, ?_⟩) (by assumption) ?_
          rotate_left 1
          · intro v hSv
            clear hSv
            go_simp
            try with_reducible rfl
          try simp only [Act.put, List.setIfInBounds_toArray, List.set_cons_zero, List.set_cons_succ]
          refine wpAnyH_take (i := 2) (oi := { dst := some 29, op := .indexAddr _ (.tmp 28) (.const (.int .i64 0)), type := _, pos := _, after := _, guard := _ }) (v := ?_) rfl (by kernel_rfl) (by kernel_rfl) (by kernel_rfl) (fun _ _ _ h => h) (Or.inl ⟨by rfl, ?_⟩) (by assumption) ?_
          rotate_left 1
          · intro v hSv
            clear hSv
            go_simp
            try with_reducible rfl
          try simp only [Act.put, List.setIfInBounds_toArray, List.set_cons_zero, List.set_cons_succ]
          refine wpAnyH_take (i := 3) (oi := { dst := some 30, op := .move (.tmp 1), type := _, pos := _, after := _, guard := _ }) (v := ?_) rfl (by kernel_rfl) (by kernel_rfl) (by kernel_rfl) (fun _ _ _ h => h) (Or.inl ⟨by rfl, ?_⟩) (by assumption) ?_
          rotate_left 1
          · intro v hSv
            clear hSv
            go_simp
            try with_reducible rfl
          try simp only [Act.put, List.setIfInBounds_toArray, List.set_cons_zero, List.set_cons_succ]
          refine wpAnyH_take (i := 4) (oi := { dst := some 31, op := .indexAddr _ (.tmp 30) (.const (.int .i64 0)), type := _, pos := _, after := _, guard := _ }) (v := ?_) rfl (by kernel_rfl) (by kernel_rfl) (by kernel_rfl) (fun _ _ _ h => h) (Or.inl ⟨by rfl, ?_⟩) (by assumption) ?_
          rotate_left 1
          · intro v hSv
            clear hSv
            go_simp
            try with_reducible rfl
          try simp only [Act.put, List.setIfInBounds_toArray, List.set_cons_zero, List.set_cons_succ]
          refine wpAnyH_ready (rs := [5]) (by kernel_rfl) (by simp) ?_
          refine AllReadyH.cons (o := { dst := some 32, op := .call _, type := _, pos := _, after := _, guard := _ }) rfl (fun K hK => ?_) AllReadyH.nil
          go_simp
          refine (HVI.out).mono ?_
          rintro e y1 ⟨rfl, hb⟩
          have hb1 : True := trivial
          have HV5 := Lib.hid hb
          clear hb
          go_wp2_with fail
          refine hK.out _ _ (hb1) (fun hHeld => ?_)
          clear hK K
          try simp only [Act.put, List.setIfInBounds_toArray, List.set_cons_zero, List.set_cons_succ]
          refine wpAnyH_done (by kernel_rfl) ?_ _
          clear HVI hb0 hb1
          have cut1 := fun v => cutOne (A := some ⟨g1, o1, none⟩) (n := es2.length) (c := ca') v
          have cut2 := fun v => cutOne (A := some ⟨g2, o2, none⟩) (n := fs2.length) (c := cb') v
          go_wp2_with fail
          refine wp_region_later (by kernel_rfl) (by kernel_rfl) ?_
          repeat (go_big_quiet_step (fail))
          refine wpQuiet_nil ?_
          rintro _ ⟨x2, rfl⟩
          have hv6 : VsI w (ys ++ []) x2.w := by rw [List.append_nil]; exact HV5.out.below x2.h
          have HV6 := Lib.hid hv6
          clear hv6
          go_wp2_with fail
          go_roundg (es2.length + fs2.length)
          case measure => (simp only [List.length_cons]; omega)
          case rel => exact ⟨cutA (some ⟨g1, o1, none⟩) ca' 1, cutA (some ⟨g2, o2, none⟩) cb' 1, ca' - 1, cb' - 1, es2, fs2, ys ++ [], rfl, rfl, rfl, by omega, by omega, HI.out.eq HC.out HZ.out HV6.out⟩
        · have HZ : Hid ([f.cn].map Cn.chg = if e.v = f.v then [] else [⟨f.k, f.v, false⟩]) := by show _ = _; rw [if_neg hv]; rfl
          have d1 : decide (0 < es2.length + 1) = true := decide_eq_true (by omega)
          have d2 : decide (0 < fs2.length + 1) = true := decide_eq_true (by omega)
          have le1 : ∀ q : Later wr, ldA 34 q.w (.pointer (some ⟨g1, o1, none⟩)) = .ok (.value (.agg (enC e).toArray)) q.w := fun q => range_ent (range_below HR1.out (HI.out.vs.1.trans (q.h.mono HI.out.vs.1.size))) HO1.out.key
          have le2 : ∀ q : Later wr, ldA 34 q.w (.pointer (some ⟨g2, o2, none⟩)) = .ok (.value (.agg (enC f).toArray)) q.w := fun q => range_ent (range_below HR2.out (HI.out.vs.1.trans (q.h.mono HI.out.vs.1.size))) HO2.out.key
          have HORD : Hid (∀ q : Later wr, Calls Tryz.prog 84 #[.agg (enC e).toArray, .agg (enC f).toArray] q.w fun x w'' => x = .returned (.int .i64 (0)) ∧ ∃ y : Later wr, w'' = y.w) := fun q => by
            have h := order_c e f HO1.out.key HO2.out.key q.w
            rw [hc] at h
            exact Later.call h
          have p1 : (0 : Int) < (es2.length : Int) + 1 := by omega
          have p2 : (0 : Int) < (fs2.length : Int) + 1 := by omega
          go_wp2_with fail
          refine wp_region_later (by kernel_rfl) (by kernel_rfl) ?_
          repeat (go_big_quiet_step ((go_at_call 84; exact HORD.out _)))
          refine wpQuiet_nil ?_
          rintro _ ⟨x, rfl⟩
          clear le1 le2 HORD
          obtain ⟨Y, hY⟩ : ∃ Y, Y = x.w := ⟨_, rfl⟩
          have hvY : VsI w ys Y := HI.out.vs.below (by rw [hY]; exact x.h)
          rw [← hY]
          have HVY := Lib.hid hvY
          clear hvY hY
          clear hc
          have HVI := Lib.hid (visit_other w Y.drew ys g1 o1 g2 o2 e f (HVY.out.below (Below.refl _ _).drew) HO1.out HR1.out HO2.out HR2.out HYL.out hv)
          clear hv
          go_wp2_with fail
          refine wp_region_held_drew (S := fun w' => True) (by kernel_rfl) (trivial) (fun hHeld => ?_)
          have hb0 : True := trivial
          refine wpAnyH_take (i := 0) (oi := { dst := some 27, op := .move (.tmp 3), type := _, pos := _, after := _, guard := _ }) (v := ?_) rfl (by kernel_rfl) (by kernel_rfl) (by kernel_rfl) (fun _ _ _ h => h) (Or.inl ⟨by rfl, ?_⟩) (by assumption) ?_
          rotate_left 1
          · intro v hSv
            clear hSv
            go_simp
            try with_reducible rfl
          try simp only [Act.put, List.setIfInBounds_toArray, List.set_cons_zero, List.set_cons_succ]
          refine wpAnyH_take (i := 1) (oi := { dst := some 28, op := .move (.tmp 0), type := _, pos := _, after := _, guard := _ }) (v := ?_) rfl (by kernel_rfl) (by kernel_rfl) (by kernel_rfl) (fun _ _ _ h => h) (Or.inl ⟨by rfl, ?_⟩) (by assumption) ?_
          rotate_left 1
          · intro v hSv
            clear hSv
            go_simp
            try with_reducible rfl
          try simp only [Act.put, List.setIfInBounds_toArray, List.set_cons_zero, List.set_cons_succ]
          refine wpAnyH_take (i := 2) (oi := { dst := some 29, op := .indexAddr _ (.tmp 28) (.const (.int .i64 0)), type := _, pos := _, after := _, guard := _ }) (v := ?_) rfl (by kernel_rfl) (by kernel_rfl) (by kernel_rfl) (fun _ _ _ h => h) (Or.inl ⟨by rfl, ?_⟩) (by assumption) ?_
          rotate_left 1
          · intro v hSv
            clear hSv
            go_simp
            try with_reducible rfl
          try simp only [Act.put, List.setIfInBounds_toArray, List.set_cons_zero, List.set_cons_succ]
          refine wpAnyH_take (i := 3) (oi := { dst := some 30, op := .move (.tmp 1), type := _, pos := _, after := _, guard := _ }) (v := ?_) rfl (by kernel_rfl) (by kernel_rfl) (by kernel_rfl) (fun _ _ _ h => h) (Or.inl ⟨by rfl, ?_⟩) (by assumption) ?_
          rotate_left 1
          · intro v hSv
            clear hSv
            go_simp
            try with_reducible rfl
          try simp only [Act.put, List.setIfInBounds_toArray, List.set_cons_zero, List.set_cons_succ]
          refine wpAnyH_take (i := 4) (oi := { dst := some 31, op := .indexAddr _ (.tmp 30) (.const (.int .i64 0)), type := _, pos := _, after := _, guard := _ }) (v := ?_) rfl (by kernel_rfl) (by kernel_rfl) (by kernel_rfl) (fun _ _ _ h => h) (Or.inl ⟨by rfl, ?_⟩) (by assumption) ?_
          rotate_left 1
          · intro v hSv
            clear hSv
            go_simp
            try with_reducible rfl
          try simp only [Act.put, List.setIfInBounds_toArray, List.set_cons_zero, List.set_cons_succ]
          refine wpAnyH_ready (rs := [5]) (by kernel_rfl) (by simp) ?_
          refine AllReadyH.cons (o := { dst := some 32, op := .call _, type := _, pos := _, after := _, guard := _ }) rfl (fun K hK => ?_) AllReadyH.nil
          go_simp
          refine (HVI.out).mono ?_
          rintro e y1 ⟨rfl, hb⟩
          have hb1 : True := trivial
          have HV5 := Lib.hid hb
          clear hb
          go_wp2_with fail
          refine hK.out _ _ (hb1) (fun hHeld => ?_)
          clear hK K
          try simp only [Act.put, List.setIfInBounds_toArray, List.set_cons_zero, List.set_cons_succ]
          refine wpAnyH_done (by kernel_rfl) ?_ _
          clear HVI hb0 hb1
          have cut1 := fun v => cutOne (A := some ⟨g1, o1, none⟩) (n := es2.length) (c := ca') v
          have cut2 := fun v => cutOne (A := some ⟨g2, o2, none⟩) (n := fs2.length) (c := cb') v
          go_wp2_with fail
          refine wp_region_later (by kernel_rfl) (by kernel_rfl) ?_
          repeat (go_big_quiet_step (fail))
          refine wpQuiet_nil ?_
          rintro _ ⟨x2, rfl⟩
          have hv6 := HV5.out.below x2.h
          have HV6 := Lib.hid hv6
          clear hv6
          go_wp2_with fail
          go_roundg (es2.length + fs2.length)
          case measure => (simp only [List.length_cons]; omega)
          case rel => exact ⟨cutA (some ⟨g1, o1, none⟩) ca' 1, cutA (some ⟨g2, o2, none⟩) cb' 1, ca' - 1, cb' - 1, es2, fs2, ys ++ [f.cn], rfl, rfl, rfl, by omega, by omega, HI.out.eq HC.out HZ.out HV6.out⟩
      · have HC : Hid (0 < cmpK e.k f.k) := by show _ < _; omega
        have d1 : decide (0 < es2.length + 1) = true := decide_eq_true (by omega)
        have d2 : decide (0 < fs2.length + 1) = true := decide_eq_true (by omega)
        have le1 : ∀ q : Later wr, ldA 34 q.w (.pointer (some ⟨g1, o1, none⟩)) = .ok (.value (.agg (enC e).toArray)) q.w := fun q => range_ent (range_below HR1.out (HI.out.vs.1.trans (q.h.mono HI.out.vs.1.size))) HO1.out.key
        have le2 : ∀ q : Later wr, ldA 34 q.w (.pointer (some ⟨g2, o2, none⟩)) = .ok (.value (.agg (enC f).toArray)) q.w := fun q => range_ent (range_below HR2.out (HI.out.vs.1.trans (q.h.mono HI.out.vs.1.size))) HO2.out.key
        have HORD : Hid (∀ q : Later wr, Calls Tryz.prog 84 #[.agg (enC e).toArray, .agg (enC f).toArray] q.w fun x w'' => x = .returned (.int .i64 (1)) ∧ ∃ y : Later wr, w'' = y.w) := fun q => by
          have h := order_c e f HO1.out.key HO2.out.key q.w
          rw [hc] at h
          exact Later.call h
        have p1 : (0 : Int) < (es2.length : Int) + 1 := by omega
        have p2 : (0 : Int) < (fs2.length : Int) + 1 := by omega
        go_wp2_with fail
        refine wp_region_later (by kernel_rfl) (by kernel_rfl) ?_
        repeat (go_big_quiet_step ((go_at_call 84; exact HORD.out _)))
        refine wpQuiet_nil ?_
        rintro _ ⟨x, rfl⟩
        clear le1 le2 HORD
        obtain ⟨Y, hY⟩ : ∃ Y, Y = x.w := ⟨_, rfl⟩
        have hvY : VsI w ys Y := HI.out.vs.below (by rw [hY]; exact x.h)
        rw [← hY]
        have HVY := Lib.hid hvY
        clear hvY hY
        clear hc
        have HVI := Lib.hid (visit_new w Y ys g2 o2 f HVY.out HO2.out HR2.out HYL.out)
        go_wp2_with fail
        refine HVI.out.mono ?_
        rintro _ w5 ⟨rfl, hv5⟩
        have HV5 := Lib.hid hv5
        clear hv5 HVI
        have cut2 := fun v => cutOne (A := some ⟨g2, o2, none⟩) (n := fs2.length) (c := cb') v
        go_wp2_with fail
        go_roundg (es2.length + 1 + fs2.length)
        case measure => (simp only [List.length_cons]; omega)
        case rel => exact ⟨some ⟨g1, o1, none⟩, cutA (some ⟨g2, o2, none⟩) cb' 1, ca', cb' - 1, e :: es2, fs2, ys ++ [f.cn], rfl, rfl, by rw [List.length_cons], by rw [List.length_cons]; omega, by omega, HI.out.gt HC.out HV5.out⟩
end Go.Proofs.YtaajnjddfcdeaaaGreatDoor

/- The program's differences and Diff. -/
namespace Go.Proofs.YtaajnjddfcdeaaaGreatDoor
open Go.RowKit Go.Shelf

theorem difC_val {a b : List Ent} {c : Chg} (h : difC a b c.k = [c]) : c.v = [] ∨ ∃ e ∈ b, c.v = e.v := by
  unfold difC at h
  cases hb : valK b c.k with
  | none =>
    rw [hb] at h
    have h1 : [(⟨c.k, [], true⟩ : Chg)] = [c] := h
    have h2 := congrArg Chg.v (List.cons.inj h1).1
    exact .inl h2.symm
  | some y =>
    rw [hb] at h
    have hy : ∃ e ∈ b, y = e.v := by
      unfold valK at hb
      obtain ⟨e, he, hv⟩ := Option.map_eq_some_iff.1 hb
      exact ⟨e, List.mem_of_find?_eq_some he, hv.symm⟩
    obtain ⟨e, he, hv⟩ := hy
    refine .inr ⟨e, he, ?_⟩
    cases hq : valK a c.k with
    | none =>
      rw [hq] at h
      have h1 : [(⟨c.k, y, false⟩ : Chg)] = [c] := h
      have h2 := congrArg Chg.v (List.cons.inj h1).1
      rw [← h2]; exact hv
    | some x =>
      rw [hq] at h
      have h1 : (if x = y then [] else [(⟨c.k, y, false⟩ : Chg)]) = [c] := h
      split at h1
      · cases h1
      · have h2 := congrArg Chg.v (List.cons.inj h1).1
        rw [← h2]; exact hv
theorem merge_vals {a b : List Ent} (ha : Asc a) (hb : Asc b) (ka : Len32 a) (kb : Len32 b) (hv : ∀ e ∈ b, e.v.length ≤ 1000) : ∀ c ∈ mergeC a b, c.v.length ≤ 1000 := fun c hc => by
  rcases difC_val ((merge_is _ a b (Nat.le_refl _) ha hb ka kb).each c hc).2 with h | ⟨e, he, h⟩
  · rw [h]; exact Nat.zero_le _
  · rw [h]; exact hv e he
theorem vals_map {M : World → Int → Tv → Prop} (nd : NdV M) {w : World} {n : Int} {T : Tv} {l : List Ent} (hM : M w n T) (hI : IsMap l T) : ∀ e ∈ l, e.v.length ≤ 1000 := fun e he => by
  have h1 := get_map hI he
  have hm := ms_fin nd e.k (d := 0) hM
  cases hf : T.fin e.k 0 with
  | nil => rw [hf] at h1; cases h1
  | inner v a b => rw [hf] at h1; cases h1
  | leaf v x =>
    rw [hf] at h1 hm
    have h2 : (if x.k = e.k then some x else none) = some e := h1
    split at h2
    · cases h2; exact (nd.key hm).2
    · cases h2
set_option maxHeartbeats 8000000 in
set_option maxRecDepth 100000 in
theorem differences_c (w : World) (A B : Option Addr) (ca cb : Nat) (es fs : List En) (hA : EA w A es) (hB : EA w B fs) (hca : es.length ≤ ca) (hcb : fs.length ≤ cb) (hl : es.length ≤ 100) (hm : fs.length ≤ 100) (ha : Asc (es.map En.ent)) (hb : Asc (fs.map En.ent)) (hv : ∀ e ∈ fs, e.v.length ≤ 1000) :
    Calls Tryz.prog 48 #[.slice A es.length ca, .slice B fs.length cb] w fun e w' => ∃ (A' : Option Addr) (c : Nat) (ys : List Cn), e = .returned (.slice A' ys.length c) ∧ CA w' A' ys ∧ ys.length ≤ c ∧ ys.map Cn.chg = mergeC (es.map En.ent) (fs.map En.ent) ∧ (∀ y ∈ ys, y.v.length ≤ 1000) ∧ Below w.heap.size w w' := by
  have hke : Len32 (es.map En.ent) := fun x hx => by
    obtain ⟨e, he, rfl⟩ := List.mem_map.1 hx
    exact (hA.mem e he).key
  have hkf : Len32 (fs.map En.ent) := fun x hx => by
    obtain ⟨e, he, rfl⟩ := List.mem_map.1 hx
    exact (hB.mem e he).key
  have HMV := Lib.hid (merge_vals ha hb hke hkf fun e he => by
    obtain ⟨f, hf, rfl⟩ := List.mem_map.1 he
    exact hv f hf)
  obtain ⟨X, hX⟩ : ∃ X, X = w.alloc (.cells #[.slice none 0 0] 47) := ⟨_, rfl⟩
  have hV : VsI w [] X := by
    refine ⟨by rw [hX]; exact (Below.refl _ _).alloc (Nat.le_refl _) _, .slice none 0 0, by rw [hX]; exact heap_alloc_new w _, OwnC.nil _ _ _, fun y hy => by cases hy⟩
  have HMG := Lib.hid (merge_c w X A B ca cb es fs hV hA hB hca hcb hl hm)
  unfold ordV visV at HMG
  have HX := Lib.hid hX
  clear hX hV hA hB hca hcb hl hm ha hb hv hke hkf
  go_enter Tryz.func48, Tryz.ntmps48
  go_wp2_with fail
  rw [← HX.out]
  refine HMG.out.mono ?_
  rintro _ w1 ⟨rfl, ys, hvs, hys⟩
  obtain ⟨hb1, v, h1, h2, h3⟩ := hvs
  obtain ⟨A', c', rfl, hc, hca⟩ := OwnC.ca h2 fun y hy => (h3 y hy).below hb1
  have lc : w1.cell? ⟨w.heap.size, 0, none⟩ = some (.slice A' ys.length c') := by rw [cell_of_cells h1]; rfl
  have HF : Hid (CA w1 A' ys ∧ ys.length ≤ c' ∧ ys.map Cn.chg = mergeC (es.map En.ent) (fs.map En.ent) ∧ (∀ y ∈ ys, y.v.length ≤ 1000) ∧ Below w.heap.size w w1) := ⟨hca, hc, hys, fun y hy => HMV.out y.chg (by rw [← hys]; exact List.mem_map.2 ⟨y, hy, rfl⟩), hb1⟩
  clear hys hb1 h1 h2 h3 hc hca HMG HX
  go_wp2_with fail
  go_ret
  exact ⟨A', c', ys, rfl, HF.out⟩
set_option maxHeartbeats 8000000 in
set_option maxRecDepth 100000 in
theorem diff_c {M : World → Int → Tv → Prop} (nd : NdV M) (w : World) (n : Int) (S T : Tv) (a b : List Ent) (hS : M w n S) (hT : M w n T) (hIS : IsMap a S) (hIT : IsMap b T) (ha : Asc a) (hb : Asc b) (hl : a.length ≤ 100) (hm : b.length ≤ 100) :
    Calls Tryz.prog 22 #[S.val, T.val] w fun x w' => ∃ (A : Option Addr) (c : Nat) (xs : List Cn), x = .returned (.slice A xs.length c) ∧ CA w' A xs ∧ xs.length ≤ c ∧ xs.map Cn.chg = diffC a b ∧ (∀ x ∈ xs, x.v.length ≤ 1000) ∧ Below w.heap.size w w' := by
  obtain ⟨pS, hpS⟩ := val_ptr nd hS
  obtain ⟨pT, hpT⟩ := val_ptr nd hT
  have HE1 := Lib.hid (entries_cl nd w n S a hS hIS ha hl)
  have HE2 : Hid (∀ z, Below w.heap.size w z → Calls Tryz.prog 49 #[.pointer pT] z fun e w' => ∃ (A : Option Addr) (c : Nat) (es : List En), e = .returned (.slice A es.length c) ∧ EA w' A es ∧ es.map En.ent = b ∧ Below z.heap.size z w' ∧ es.length ≤ c) := fun z hz => by
    rw [← hpT]
    exact entries_cl nd z n T b (nd.below hT hz) hIT hb hm
  rw [hpS] at HE1
  have HVB := Lib.hid (vals_map nd hT hIT)
  have HDM := Lib.hid (diff_merge ha hb (fun e he => hIS.sep.len e he) (fun e he => hIT.sep.len e he))
  have HAA := Lib.hid ha
  have HBB := Lib.hid hb
  have HLA := Lib.hid hl
  have HLB := Lib.hid hm
  rw [hpS, hpT]
  clear hS hT hIS hIT ha hb hl hm hpS hpT
  go_enter Tryz.func22, Tryz.ntmps22
  go_wp2_with fail
  refine HE1.out.mono ?_
  rintro _ w1 ⟨A1, c1, es, rfl, hE1, hm1, hB1, hc1⟩
  have HEA := Lib.hid hE1
  have HM1 := Lib.hid hm1
  have HB1 := Lib.hid hB1
  have HC1 := Lib.hid hc1
  clear hE1 hm1 hB1 hc1 HE1
  go_wp2_with fail
  refine (HE2.out w1 HB1.out).mono ?_
  rintro _ w2 ⟨A2, c2, fs, rfl, hE2, hm2, hB2, hc2⟩
  have hl1 := congrArg List.length HM1.out
  have hl2 := congrArg List.length hm2
  rw [List.length_map] at hl1 hl2
  have HDF := Lib.hid (differences_c w2 A1 A2 c1 c2 es fs (HEA.out.below hB2) hE2 HC1.out hc2 (by rw [hl1]; exact HLA.out) (by rw [hl2]; exact HLB.out) (by rw [HM1.out]; exact HAA.out) (by rw [hm2]; exact HBB.out) fun f hf => HVB.out f.ent (by rw [← hm2]; exact List.mem_map.2 ⟨f, hf, rfl⟩))
  have HB2 := Lib.hid (HB1.out.trans (hB2.mono HB1.out.size))
  have HM2 := Lib.hid hm2
  clear hl1 hl2 hE2 hm2 hB2 hc2 HE2 HEA HC1
  go_wp2_with fail
  refine HDF.out.mono ?_
  rintro _ w3 ⟨A3, c3, ys, rfl, h1, h2, h3, h4, hB⟩
  have HF : Hid (CA w3 A3 ys ∧ ys.length ≤ c3 ∧ ys.map Cn.chg = diffC a b ∧ (∀ y ∈ ys, y.v.length ≤ 1000) ∧ Below w.heap.size w w3) := ⟨h1, h2, by rw [h3, HM1.out, HM2.out, HDM.out], h4, HB2.out.trans (hB.mono HB2.out.size)⟩
  clear h1 h2 h3 h4 hB HDF
  go_wp2_with fail
  go_ret
  exact ⟨A3, c3, ys, rfl, HF.out⟩
end Go.Proofs.YtaajnjddfcdeaaaGreatDoor

/- The program's Undo (by program: gen-tpl12-undo.py). -/
namespace Go.Proofs.YtaajnjddfcdeaaaGreatDoor
open Go.RowKit Go.Shelf

/-! ### Two rows that grow in turn -/
structure UnI (w : World) (B A : List Ent) (v1 v2 : Value) (bs ls : List En) (X : World) : Prop where
  bel : Below w.heap.size w X
  o1 : OwnE X w.heap.size v1 bs
  o2 : OwnE X w.heap.size v2 ls
  ne : ∀ g, v1.ownBlock = some g → v2.ownBlock ≠ some g
  m1 : bs.map En.ent = B
  m2 : ls.map En.ent = A
  k1 : ∀ e ∈ bs, EnOk X e ∧ (e.v = [] ∨ ∃ g, e.A = some ⟨g, 0, none⟩ ∧ g < X.heap.size ∧ v1.ownBlock ≠ some g ∧ v2.ownBlock ≠ some g)
  k2 : ∀ e ∈ ls, EnOk w e
theorem UnI.below {w X Y : World} {B A : List Ent} {v1 v2 : Value} {bs ls : List En} (h : UnI w B A v1 v2 bs ls X) (hb : Below X.heap.size X Y) : UnI w B A v1 v2 bs ls Y where
  bel := h.bel.trans (hb.mono h.bel.size)
  o1 := h.o1.below hb
  o2 := h.o2.below hb
  ne := h.ne
  m1 := h.m1
  m2 := h.m2
  k1 := fun e he => by
    obtain ⟨h1, h2⟩ := h.k1 e he
    exact ⟨h1.below hb, h2.imp id fun ⟨g, q1, q2, q3, q4⟩ => ⟨g, q1, Nat.lt_of_lt_of_le q2 hb.size, q3, q4⟩⟩
  k2 := h.k2
theorem un_lt {w X : World} {B A : List Ent} {v1 v2 : Value} {bs ls : List En} (h : UnI w B A v1 v2 bs ls X) (g : Nat) : (v1.ownBlock = some g → g < X.heap.size) ∧ (v2.ownBlock = some g → g < X.heap.size) :=
  ⟨fun e => by obtain ⟨_, cs, hc⟩ := row11_lt h.o1 g e; exact lt_of_heap hc, fun e => by obtain ⟨_, cs, hc⟩ := row11_lt h.o2 g e; exact lt_of_heap hc⟩
theorem un_blk {v1 v2 : Value} {en : En} {Y1 w5 Z : Nat} (h : ∀ g, (v1.ownBlock = some g → g < Y1) ∧ (v2.ownBlock = some g → g < Y1)) {Y2 : Nat} (hb : en.v = [] ∨ ∃ g, en.A = some ⟨g, 0, none⟩ ∧ Y2 ≤ g ∧ g < w5) (hz : w5 ≤ Z) (hy : Y1 ≤ Y2 := by assumption) : en.v = [] ∨ ∃ g, en.A = some ⟨g, 0, none⟩ ∧ g < Z ∧ v1.ownBlock ≠ some g ∧ v2.ownBlock ≠ some g :=
  hb.imp id fun ⟨g, h1, h2, h3⟩ => ⟨g, h1, by omega, fun e => by have := (h g).1 e; omega, fun e => by have := (h g).2 e; omega⟩
theorem un_range {Z w9 : World} {g : Nat} {v v' : Value} {cs : List Value} (h : Z.rangeAt g 0 cs) (hG : Grown11 v v' Z w9) (hn : ∀ q, v.ownBlock = some q → q ≠ g) : w9.rangeAt g 0 cs := fun j u hu => hG.keep.cellAt (h j u hu) fun e => hn g e rfl
theorem en_keep12 {Z w9 : World} {e : En} {L : Nat → Prop} (h : EnOk Z e) (hb : e.v = [] ∨ ∃ g, e.A = some ⟨g, 0, none⟩ ∧ ¬ L g) (hk : Keep L Z w9) : EnOk w9 e := by
  obtain ⟨h1, h2, h3⟩ := h
  rcases hb with hb | ⟨g, hA, hg⟩
  · exact ⟨h1, h2, ba11_nil _ _ hb⟩
  · rw [hA] at h3
    exact ⟨h1, h2, by rw [hA]; exact ba11_keep h3 hk hg⟩
theorem UnI.push1 {w Z w9 : World} {B A : List Ent} {v1 v2 v' : Value} {bs ls : List En} {en : En} (h : UnI w B A v1 v2 bs ls Z) (hen : EnOk Z en) (hblk : en.v = [] ∨ ∃ g, en.A = some ⟨g, 0, none⟩ ∧ g < Z.heap.size ∧ v1.ownBlock ≠ some g ∧ v2.ownBlock ≠ some g) (ho : OwnE w9 w.heap.size v' (bs ++ [en])) (hG : Grown11 v1 v' Z w9) : UnI w (B ++ [en.ent]) A v' v2 (bs ++ [en]) ls w9 := by
  have hv' : ∀ g, v'.ownBlock = some g → v1.ownBlock = some g ∨ g = Z.heap.size := fun g hg => hG.blk.imp (fun e => by rw [← e]; exact hg) fun e => by rw [e] at hg; cases hg; rfl
  have hst : ∀ e, EnOk Z e → (e.v = [] ∨ ∃ g, e.A = some ⟨g, 0, none⟩ ∧ g < Z.heap.size ∧ v1.ownBlock ≠ some g ∧ v2.ownBlock ≠ some g) → EnOk w9 e ∧ (e.v = [] ∨ ∃ g, e.A = some ⟨g, 0, none⟩ ∧ g < w9.heap.size ∧ v'.ownBlock ≠ some g ∧ v2.ownBlock ≠ some g) := fun e he hb =>
    ⟨en_keep12 he (hb.imp id fun ⟨g, q1, _, q3, _⟩ => ⟨g, q1, q3⟩) hG.keep, hb.imp id fun ⟨g, q1, q2, q3, q4⟩ => ⟨g, q1, Nat.lt_of_lt_of_le q2 hG.keep.size, fun hg => (hv' g hg).elim q3 fun e => by omega, q4⟩⟩
  refine ⟨h.bel.trans ((Below.refl _ _).grown hG.by_ h.bel.size fun k hk => (row11_lt h.o1 k hk).1), ho, row11_keep h.o2 hG.keep fun g hg e => h.ne g e hg, fun g hg e => (hv' g hg).elim (fun q => h.ne g q e) fun q => by have := (un_lt h g).2 e; omega, by rw [List.map_append, h.m1]; rfl, h.m2, fun e he => ?_, h.k2⟩
  rcases List.mem_append.1 he with he | he
  · exact hst e (h.k1 e he).1 (h.k1 e he).2
  · rw [List.mem_singleton.1 he]; exact hst en hen hblk
theorem UnI.push2 {w Z w9 : World} {B A : List Ent} {v1 v2 v' : Value} {bs ls : List En} {en : En} (h : UnI w B A v1 v2 bs ls Z) (hen : EnOk w en) (ho : OwnE w9 w.heap.size v' (ls ++ [en])) (hG : Grown11 v2 v' Z w9) : UnI w B (A ++ [en.ent]) v1 v' bs (ls ++ [en]) w9 := by
  have hv' : ∀ g, v'.ownBlock = some g → v2.ownBlock = some g ∨ g = Z.heap.size := fun g hg => hG.blk.imp (fun e => by rw [← e]; exact hg) fun e => by rw [e] at hg; cases hg; rfl
  refine ⟨h.bel.trans ((Below.refl _ _).grown hG.by_ h.bel.size fun k hk => (row11_lt h.o2 k hk).1), row11_keep h.o1 hG.keep fun g hg e => h.ne g hg e, ho, fun g hg e => (hv' g e).elim (fun q => h.ne g hg q) fun q => by have := (un_lt h g).1 hg; omega, h.m1, by rw [List.map_append, h.m2]; rfl, fun e he => ?_, fun e he => ?_⟩
  · obtain ⟨q0, hb⟩ := h.k1 e he
    exact ⟨en_keep12 q0 (hb.imp id fun ⟨g, q1, _, _, q4⟩ => ⟨g, q1, q4⟩) hG.keep, hb.imp id fun ⟨g, q1, q2, q3, q4⟩ => ⟨g, q1, Nat.lt_of_lt_of_le q2 hG.keep.size, q3, fun hg => (hv' g hg).elim q4 fun e => by omega⟩⟩
  · rcases List.mem_append.1 he with he | he
    · exact h.k2 e he
    · rw [List.mem_singleton.1 he]; exact hen
theorem get_val {l : List Ent} {T : Tv} {k : List UInt8} (h : IsMap l T) : getT (T.fin k 0).tr k = l.find? fun e => decide (e.k = k) := get_is h.sep (h.at k)
set_option maxHeartbeats 16000000 in
set_option maxRecDepth 100000 in
theorem undo_c {M : World → Int → Tv → Prop} (nd : NdV M) (w : World) (n : Int) (T : Tv) (l : List Ent) (A : Option Addr) (cA : Nat) (xs : List Cn) (hM : M w n T) (hI : IsMap l T) (ha : Asc l) (hA : CA w A xs) (hn : xs.length ≤ 50) (h0 : chkK (xs.map Cn.k) = 0) :
    Calls Tryz.prog 23 #[T.val, .slice A xs.length cA] w fun x w' => ∃ (A' : Option Addr) (c : Nat) (ys : List Cn), x = .returned (.tuple #[.slice A' ys.length c, .int .i64 0]) ∧ CA w' A' ys ∧ ys.length ≤ c ∧ ys.map Cn.chg = diffC (appC l (xs.map Cn.chg)) l ∧ (∀ y ∈ ys, y.v.length ≤ 1000) ∧ Below w.heap.size w w' := by
  have HCK := Lib.hid (check_c A cA xs w hA (by omega))
  rw [h0] at HCK
  have hks : AscS (xs.map Cn.k) := chk_asc _ (fun k hk => by obtain ⟨x, hx, rfl⟩ := List.mem_map.1 hk; exact (hA.ok x hx).key) h0
  have hkk : (xs.map Cn.chg).map Chg.k = xs.map Cn.k := by rw [List.map_map]; rfl
  have HAS : Hid (AscS ((xs.map Cn.chg).map Chg.k)) := by rw [hkk]; exact hks
  have HL32 : Hid (Len32 l) := fun e he => hI.sep.len e he
  have HUM : Hid (mergeC (aftC (xs.map Cn.chg)) (befC l (xs.map Cn.chg)) = diffC (appC l (xs.map Cn.chg)) l) := undo_merge ha HL32.out HAS.out fun c hc => by
    obtain ⟨x, hx, rfl⟩ := List.mem_map.1 hc
    exact (hA.ok x hx).key
  have HVM := Lib.hid (vals_map nd hM hI)
  obtain ⟨pT, hpT⟩ := val_ptr nd hM
  have HGT : Hid (∀ z k, Below w.heap.size w z → k.length = 32 → Calls Tryz.prog 37 #[.pointer pT, .agg (bA k)] z fun e w' => ∃ A c, e = .returned (.tuple #[.slice A (valO (l.find? fun e => decide (e.k = k))).length c, .bool (l.find? fun e => decide (e.k = k)).isSome]) ∧ NewB w' z.heap.size A c (valO (l.find? fun e => decide (e.k = k))) ∧ Below z.heap.size z w') := fun z k hz hk => by
    have := get_n nd z n l T k (nd.below hM hz) hI hk
    rw [get_val hI, hpT] at this
    exact this
  have HA := Lib.hid hA
  have hn9 : xs.length ≤ 50 := hn
  rw [hpT]
  clear hM hI ha hA hn h0 hks hkk hpT
  go_enter Tryz.func23, Tryz.ntmps23
  go_wp2_with fail
  refine HCK.out.mono ?_
  rintro _ w1 ⟨g1, rfl, _, hB1⟩
  have zs := zeroSo
  obtain ⟨SV, hSV⟩ : ∃ v, v = srtC (.slice (some ⟨g1, 0, none⟩) xs.length xs.length) (.slice A xs.length cA) := ⟨_, rfl⟩
  obtain ⟨Y, hY⟩ : ∃ Y, Y = w1.alloc (.cells SV 84) := ⟨_, rfl⟩
  have st0 : stA 84 (w1.alloc (.cells (srtC (.slice none 0 0) (.slice none 0 0)) 84)) (.pointer (some ⟨w1.heap.size, 0, none⟩)) (.agg SV) = .ok .skip Y := by rw [hY, hSV]; exact stA_new w1 _ _ infoSo rfl (srt_one _ _ _ _ _ _)
  have hBY : Below w.heap.size w Y := by rw [hY]; exact (hB1.alloc hB1.size _)
  have HI0 : Hid (UnI w (befC l ((xs.map Cn.chg).take 0)) (aftC ((xs.map Cn.chg).take 0)) (.slice none 0 0) (.slice none 0 0) [] [] Y) := ⟨hBY, OwnE.nil _ _, OwnE.nil _ _, fun g hg => (by simp [Value.ownBlock] at hg), rfl, rfl, fun e he => (by cases he), fun e he => (by cases he)⟩
  rw [← hSV]
  clear hB1 hSV hY hBY HCK
  go_wp2_with fail
  clear st0 zs
  go_loopg [8, 9, 24] xs.length (fun gg bv' av iv wr => ∃ (m : Nat) (v1 v2 : Value) (bs ls : List En), v1 = bv' ∧ v2 = av ∧ iv = .int .i64 (m : Int) ∧ m ≤ xs.length ∧ xs.length - m = gg ∧ Hid (UnI w (befC l ((xs.map Cn.chg).take m)) (aftC ((xs.map Cn.chg).take m)) v1 v2 bs ls wr ∧ bs.length ≤ m ∧ ls.length ≤ m))
  case atStart => exact ⟨0, _, _, [], [], rfl, rfl, rfl, by omega, by omega, HI0.out, by simp, by simp⟩
  case round =>
    obtain ⟨m, v1, v2, bs, ls, rfl, rfl, rfl, hm, rfl, HRR⟩ := hrel
    by_cases hlt : m < xs.length
    · have hd : decide (m < xs.length) = true := decide_eq_true hlt
      obtain ⟨x, hx⟩ : ∃ x, xs[m]? = some x := ⟨_, List.getElem?_eq_getElem hlt⟩
      obtain ⟨hok, g, o, rfl, hr⟩ := HA.out m x hx
      have hx2 : (xs.map Cn.chg)[m]? = some x.chg := by rw [List.getElem?_map, hx]; rfl
      have HBT := Lib.hid (befC_take (l := l) hx2)
      have HAT := Lib.hid (aftC_take hx2)
      have HKX := Lib.hid hok.key
      have HOX := Lib.hid hok
      have le := range_cb (range_below hr HRR.out.1.bel) hok.key
      have zv := back_c_z
      obtain ⟨Y1, hY1⟩ : ∃ Y1, Y1 = wr.alloc (.cells (cnC x).toArray 69) := ⟨_, rfl⟩
      have hbY : Below wr.heap.size wr Y1 := by rw [hY1]; exact (Below.refl _ _).alloc (Nat.le_refl _) _
      have st : stA 69 (wr.alloc (.cells (cnC zC12).toArray 69)) (.pointer (some ⟨wr.heap.size, 0, none⟩)) (.agg (cnC x).toArray) = .ok .skip Y1 := by rw [hY1]; exact stC_new infoCb1 hok.key rfl
      have hrY : Y1.rangeAt wr.heap.size 0 (cnC x) := by rw [hY1]; exact cn_made wr x _
      have lk := range_ckey hrY hok.key
      have HRY := Lib.hid hrY
      have HIY := Lib.hid (HRR.out.1.below hbY)
      have HIB : Hid (∀ g, (v1.ownBlock = some g → g < wr.heap.size) ∧ (v2.ownBlock = some g → g < wr.heap.size)) := fun g => un_lt HRR.out.1 g
      have HYS : Hid (wr.heap.size ≤ Y1.heap.size) := hbY.size
      have HLM : Hid (bs.length ≤ m ∧ ls.length ≤ m) := HRR.out.2
      have HLB : Hid (bs.length ≤ 1000000) := by show _ ≤ _; have := HLM.out.1; omega
      have HLA : Hid (ls.length ≤ 1000000) := by show _ ≤ _; have := HLM.out.2; omega
      have HG := Lib.hid (HGT.out Y1 x.k HIY.out.bel hok.key)
      have p0 : (0 : Int) ≤ (m : Int) := by omega
      have p1 : (m : Int) < (xs.length : Int) := by omega
      obtain ⟨fo, hfo⟩ : ∃ fo, fo = l.find? fun e => decide (e.k = x.k) := ⟨_, rfl⟩
      have hvl : valK l x.k = fo.map Ent.v := by rw [hfo]; rfl
      rw [← hfo] at HG
      have hck : x.chg.k = x.k := rfl
      rw [hck] at HBT HAT
      have hcd : x.chg.d = x.d := rfl
      have hcv : x.chg.v = x.v := rfl
      rw [hcd, hcv] at HAT
      clear hx hx2 hok hr hY1 hbY hrY hfo HRR hck hcd hcv
      cases fo with
      | none =>
        have HVL : Hid (valK l x.k = none) := hvl
        rw [show (none : Option Ent).isSome = false from rfl] at HG
        clear hvl
        go_wp2_with fail
        refine HG.out.mono ?_
        rintro _ w5 ⟨A5, c5, rfl, _, hB5⟩
        have HI5 := Lib.hid (HIY.out.below hB5)
        have HRC5 := Lib.hid (range_below HRY.out hB5)
        clear hB5 HG lk le st zv
        cases hdx : x.d with
        | true =>
          have HDX := Lib.hid hdx
          clear hdx
          have HI9 := HI5
          have HRC9 := HRC5
          have ld9 := range_cdel HRC9.out HKX.out
          rw [Nat.zero_add, HDX.out] at ld9
          go_wp2_with fail
          go_roundg (xs.length - (m + 1))
          case measure => omega
          case rel =>
            refine ⟨m + 1, _, _, bs, ls, rfl, rfl, by go_num, by omega, rfl, ?_⟩
            have hlm := HLM.out
            refine ⟨?_, by first | omega | (simp only [List.length_append, List.length_singleton]; omega), by first | omega | (simp only [List.length_append, List.length_singleton]; omega)⟩
            have hb := HBT.out
            have ha := HAT.out
            rw [HVL.out] at hb
            rw [HDX.out] at ha
            rw [hb, ha]
            have hfin := HI9.out
            skip
            skip
            simpa using hfin
        | false =>
          have HDX := Lib.hid hdx
          clear hdx
          have HI9 := HI5
          have HRC9 := HRC5
          have ld9 := range_cdel HRC9.out HKX.out
          rw [Nat.zero_add, HDX.out] at ld9
          have lk9 := range_ckey HRC9.out HKX.out
          have lv9 := range_cval HRC9.out HKX.out
          rw [Nat.zero_add] at lv9
          obtain ⟨ea, hea⟩ : ∃ en : En, en = ⟨x.k, x.A, x.v, x.c⟩ := ⟨_, rfl⟩
          have HAN : Hid (ea.k.length = 32) := by show _ = _; rw [hea]; exact HKX.out
          have HAO : Hid (EnOk w ea) := by rw [hea]; exact ⟨HKX.out, HOX.out.cap, HOX.out.val⟩
          have HAE : Hid (ea.ent = ⟨x.k, x.v⟩) := by rw [hea]; rfl
          have bl2 : ∀ w, bldA 34 w #[(0, .agg (bA x.k)), (1, .slice x.A x.v.length x.c)] = .ok (.value (.agg (enC ea).toArray)) w := fun w => by rw [hea]; exact bldEntry ⟨x.k, x.A, x.v, x.c⟩ HKX.out w
          have bs2 := bsE_one ea HAN.out
          clear hea
          go_wp2_with (at_builtin; refine wpList_pushE11 rfl _ _ rfl w.heap.size v2 ls rfl (HI9.out.below (((Below.refl _ _).alloc (Nat.le_refl _) _) : Below w5.heap.size w5 (w5.alloc (.cells (enC ea).toArray 34)))).o2 w5.heap.size ea HAN.out rfl (ent_made w5 ea _) HLA.out (Nat.le_trans HI9.out.bel.size (by simp)) ?_; intro va wa hOa hGa; have HIA := Lib.hid ((HI9.out.below (((Below.refl _ _).alloc (Nat.le_refl _) _) : Below w5.heap.size w5 (w5.alloc (.cells (enC ea).toArray 34)))).push2 (en := ea) HAO.out hOa hGa); have HOA := Lib.hid hOa; obtain ⟨Aa, ca, rfl, _⟩ := HOA.out.len; clear hOa hGa)
          go_roundg (xs.length - (m + 1))
          case measure => omega
          case rel =>
            refine ⟨m + 1, _, _, bs, (ls ++ [ea]), rfl, rfl, by go_num, by omega, rfl, ?_⟩
            have hlm := HLM.out
            refine ⟨?_, by first | omega | (simp only [List.length_append, List.length_singleton]; omega), by first | omega | (simp only [List.length_append, List.length_singleton]; omega)⟩
            have hb := HBT.out
            have ha := HAT.out
            rw [HVL.out] at hb
            rw [HDX.out] at ha
            rw [hb, ha]
            have hfin := HIA.out
            skip
            rw [HAE.out] at hfin
            simpa using hfin
      | some en0 =>
        obtain ⟨val, hval⟩ : ∃ val, val = en0.v := ⟨_, rfl⟩
        have HVL : Hid (valK l x.k = some val) := by show _ = _; rw [hvl, hval]; rfl
        rw [show (some en0 : Option Ent).isSome = true from rfl, show valO (some en0) = en0.v from rfl, ← hval] at HG
        clear hvl hval
        go_wp2_with fail
        refine HG.out.mono ?_
        rintro _ w5 ⟨A5, c5, rfl, hN5, hB5⟩
        have HI5 := Lib.hid (HIY.out.below hB5)
        have HRC5 := Lib.hid (range_below HRY.out hB5)
        have HN5 : Hid (val.length ≤ c5 ∧ BA w5 A5 val ∧ (val = [] ∨ ∃ g, A5 = some ⟨g, 0, none⟩ ∧ Y1.heap.size ≤ g ∧ g < w5.heap.size)) := ⟨hN5.1, hN5.ba, hN5.blk⟩
        clear hB5 hN5 HG lk le st zv
        cases hdx : x.d with
        | true =>
          have HDX := Lib.hid hdx
          clear hdx
          obtain ⟨en, hen⟩ : ∃ en : En, en = ⟨x.k, A5, val, c5⟩ := ⟨_, rfl⟩
          have HEN : Hid (en.k.length = 32) := by show _ = _; rw [hen]; exact HKX.out
          have HEO : Hid (EnOk w5 en) := by rw [hen]; exact ⟨HKX.out, HN5.out.1, HN5.out.2.1⟩
          have HEE : Hid (en.ent = ⟨x.k, val⟩) := by rw [hen]; rfl
          have HEB : Hid (en.v = [] ∨ ∃ g, en.A = some ⟨g, 0, none⟩ ∧ Y1.heap.size ≤ g ∧ g < w5.heap.size) := by rw [hen]; exact HN5.out.2.2
          have bl : ∀ w, bldA 34 w #[(0, .agg (bA x.k)), (1, .slice A5 val.length c5)] = .ok (.value (.agg (enC en).toArray)) w := fun w => by rw [hen]; exact bldEntry ⟨x.k, A5, val, c5⟩ HKX.out w
          have bs1 := bsE_one en HEN.out
          clear hen
          obtain ⟨Z, hZ⟩ : ∃ Z, Z = w5.alloc (.cells (enC en).toArray 34) := ⟨_, rfl⟩
          have hbZ : Below w5.heap.size w5 Z := by rw [hZ]; exact (Below.refl _ _).alloc (Nat.le_refl _) _
          have HRG : Hid (Z.rangeAt w5.heap.size 0 (enC en)) := by rw [hZ]; exact ent_made w5 en _
          have HIZ := Lib.hid (HI5.out.below hbZ)
          have HRCZ := Lib.hid (range_below HRC5.out hbZ)
          have HBZ := Lib.hid hbZ
          have HZ := Lib.hid hZ
          have HZS : Hid (w.heap.size ≤ Z.heap.size) := HIZ.out.bel.size
          clear hZ hbZ
          have lk5 := range_ckey HRC5.out HKX.out
          go_wp2_with (at_builtin; rw [← HZ.out]; refine wpList_pushE11 rfl _ _ rfl w.heap.size v1 bs rfl HIZ.out.o1 w5.heap.size en HEN.out rfl HRG.out HLB.out HZS.out ?_; intro v9 w9 hO9 hG9; have HI9 := Lib.hid (HIZ.out.push1 (en := en) ⟨HEO.out.key, HEO.out.cap, HEO.out.val.below HBZ.out⟩ (un_blk HIB.out HEB.out HBZ.out.size) hO9 hG9); have HRC9 := Lib.hid (un_range HRCZ.out hG9 (fun g hg => by have := (HIB.out g).1 hg; omega)); have HO9 := Lib.hid hO9; have HNB : Hid (∀ g, v2.ownBlock = some g → g < wr.heap.size) := fun g hg => (HIB.out g).2 hg; have ld9 := range_cdel HRC9.out HKX.out; rw [Nat.zero_add, HDX.out] at ld9; obtain ⟨A9, c9, rfl, _⟩ := HO9.out.len; clear hO9 hG9)
          go_roundg (xs.length - (m + 1))
          case measure => omega
          case rel =>
            refine ⟨m + 1, _, _, (bs ++ [en]), ls, rfl, rfl, by go_num, by omega, rfl, ?_⟩
            have hlm := HLM.out
            refine ⟨?_, by first | omega | (simp only [List.length_append, List.length_singleton]; omega), by first | omega | (simp only [List.length_append, List.length_singleton]; omega)⟩
            have hb := HBT.out
            have ha := HAT.out
            rw [HVL.out] at hb
            rw [HDX.out] at ha
            rw [hb, ha]
            have hfin := HI9.out
            rw [HEE.out] at hfin
            skip
            simpa using hfin
        | false =>
          have HDX := Lib.hid hdx
          clear hdx
          obtain ⟨en, hen⟩ : ∃ en : En, en = ⟨x.k, A5, val, c5⟩ := ⟨_, rfl⟩
          have HEN : Hid (en.k.length = 32) := by show _ = _; rw [hen]; exact HKX.out
          have HEO : Hid (EnOk w5 en) := by rw [hen]; exact ⟨HKX.out, HN5.out.1, HN5.out.2.1⟩
          have HEE : Hid (en.ent = ⟨x.k, val⟩) := by rw [hen]; rfl
          have HEB : Hid (en.v = [] ∨ ∃ g, en.A = some ⟨g, 0, none⟩ ∧ Y1.heap.size ≤ g ∧ g < w5.heap.size) := by rw [hen]; exact HN5.out.2.2
          have bl : ∀ w, bldA 34 w #[(0, .agg (bA x.k)), (1, .slice A5 val.length c5)] = .ok (.value (.agg (enC en).toArray)) w := fun w => by rw [hen]; exact bldEntry ⟨x.k, A5, val, c5⟩ HKX.out w
          have bs1 := bsE_one en HEN.out
          clear hen
          obtain ⟨Z, hZ⟩ : ∃ Z, Z = w5.alloc (.cells (enC en).toArray 34) := ⟨_, rfl⟩
          have hbZ : Below w5.heap.size w5 Z := by rw [hZ]; exact (Below.refl _ _).alloc (Nat.le_refl _) _
          have HRG : Hid (Z.rangeAt w5.heap.size 0 (enC en)) := by rw [hZ]; exact ent_made w5 en _
          have HIZ := Lib.hid (HI5.out.below hbZ)
          have HRCZ := Lib.hid (range_below HRC5.out hbZ)
          have HBZ := Lib.hid hbZ
          have HZ := Lib.hid hZ
          have HZS : Hid (w.heap.size ≤ Z.heap.size) := HIZ.out.bel.size
          clear hZ hbZ
          have lk5 := range_ckey HRC5.out HKX.out
          obtain ⟨ea, hea⟩ : ∃ en : En, en = ⟨x.k, x.A, x.v, x.c⟩ := ⟨_, rfl⟩
          have HAN : Hid (ea.k.length = 32) := by show _ = _; rw [hea]; exact HKX.out
          have HAO : Hid (EnOk w ea) := by rw [hea]; exact ⟨HKX.out, HOX.out.cap, HOX.out.val⟩
          have HAE : Hid (ea.ent = ⟨x.k, x.v⟩) := by rw [hea]; rfl
          have bl2 : ∀ w, bldA 34 w #[(0, .agg (bA x.k)), (1, .slice x.A x.v.length x.c)] = .ok (.value (.agg (enC ea).toArray)) w := fun w => by rw [hea]; exact bldEntry ⟨x.k, x.A, x.v, x.c⟩ HKX.out w
          have bs2 := bsE_one ea HAN.out
          clear hea
          go_wp2_with (at_builtin; first | (rw [← HZ.out]; refine wpList_pushE11 rfl _ _ rfl w.heap.size v1 bs rfl HIZ.out.o1 w5.heap.size en HEN.out rfl HRG.out HLB.out HZS.out ?_; intro v9 w9 hO9 hG9; have HI9 := Lib.hid (HIZ.out.push1 (en := en) ⟨HEO.out.key, HEO.out.cap, HEO.out.val.below HBZ.out⟩ (un_blk HIB.out HEB.out HBZ.out.size) hO9 hG9); have HRC9 := Lib.hid (un_range HRCZ.out hG9 (fun g hg => by have := (HIB.out g).1 hg; omega)); have HO9 := Lib.hid hO9; have HNB : Hid (∀ g, v2.ownBlock = some g → g < wr.heap.size) := fun g hg => (HIB.out g).2 hg; have ld9 := range_cdel HRC9.out HKX.out; rw [Nat.zero_add, HDX.out] at ld9; have lk9 := range_ckey HRC9.out HKX.out; have lv9 := range_cval HRC9.out HKX.out; rw [Nat.zero_add] at lv9; obtain ⟨A9, c9, rfl, _⟩ := HO9.out.len; clear hO9 hG9) | (refine wpList_pushE11 rfl _ _ rfl w.heap.size v2 ls rfl (HI9.out.below (((Below.refl _ _).alloc (Nat.le_refl _) _) : Below w9.heap.size w9 (w9.alloc (.cells (enC ea).toArray 34)))).o2 w9.heap.size ea HAN.out rfl (ent_made w9 ea _) HLA.out (Nat.le_trans HI9.out.bel.size (by simp)) ?_; intro va wa hOa hGa; have HIA := Lib.hid ((HI9.out.below (((Below.refl _ _).alloc (Nat.le_refl _) _) : Below w9.heap.size w9 (w9.alloc (.cells (enC ea).toArray 34)))).push2 (en := ea) HAO.out hOa hGa); have HOA := Lib.hid hOa; obtain ⟨Aa, ca, rfl, _⟩ := HOA.out.len; clear hOa hGa))
          go_roundg (xs.length - (m + 1))
          case measure => omega
          case rel =>
            refine ⟨m + 1, _, _, (bs ++ [en]), (ls ++ [ea]), rfl, rfl, by go_num, by omega, rfl, ?_⟩
            have hlm := HLM.out
            refine ⟨?_, by first | omega | (simp only [List.length_append, List.length_singleton]; omega), by first | omega | (simp only [List.length_append, List.length_singleton]; omega)⟩
            have hb := HBT.out
            have ha := HAT.out
            rw [HVL.out] at hb
            rw [HDX.out] at ha
            rw [hb, ha]
            have hfin := HIA.out
            rw [HEE.out] at hfin
            rw [HAE.out] at hfin
            simpa using hfin
    · obtain rfl : m = xs.length := by omega
      have hd : decide (xs.length < xs.length) = false := decide_eq_false (by omega)
      have htk : (xs.map Cn.chg).take xs.length = xs.map Cn.chg := List.take_of_length_le (by rw [List.length_map]; omega)
      obtain ⟨hI, hlb, hla⟩ := HRR.out
      rw [htk] at hI
      obtain ⟨A1, c1, rfl, hc1, hE1⟩ := OwnE.ea hI.o1 fun e he => (hI.k1 e he).1
      obtain ⟨A2, c2, rfl, hc2, hE2⟩ := OwnE.ea hI.o2 fun e he => (hI.k2 e he).below hI.bel
      have HDF := Lib.hid (differences_c wr A2 A1 c2 c1 ls bs hE2 hE1 hc2 hc1 (by omega) (by omega) (by rw [hI.m2]; exact aftC_asc HAS.out) (by rw [hI.m1]; exact befC_asc HAS.out) fun e he => by
        have h1 : e.ent ∈ befC l (xs.map Cn.chg) := by rw [← hI.m1]; exact List.mem_map.2 ⟨e, he, rfl⟩
        obtain ⟨c, _, _, hv⟩ := befC_mem h1
        unfold valK at hv
        obtain ⟨e2, he2, hv2⟩ := Option.map_eq_some_iff.1 hv
        have := HVM.out e2 (List.mem_of_find?_eq_some he2)
        rw [hv2] at this
        exact this)
      have HM1 := Lib.hid hI.m1
      have HM2 := Lib.hid hI.m2
      have HBI := Lib.hid hI.bel
      clear htk hI hlb hla hc1 hE1 hc2 hE2 HRR hlt
      go_wp2_with fail
      refine HDF.out.mono ?_
      rintro _ w8 ⟨A8, c8, ys, rfl, q1, q2, q3, q4, q5⟩
      have HF : Hid (CA w8 A8 ys ∧ ys.length ≤ c8 ∧ ys.map Cn.chg = diffC (appC l (xs.map Cn.chg)) l ∧ (∀ y ∈ ys, y.v.length ≤ 1000) ∧ Below w.heap.size w w8) := ⟨q1, q2, by rw [q3, HM1.out, HM2.out, HUM.out], q4, HBI.out.trans (q5.mono HBI.out.size)⟩
      clear q1 q2 q3 q4 q5 HDF
      go_wp2_with fail
      go_ret2
      exact ⟨A8, c8, ys, rfl, HF.out⟩
end Go.Proofs.YtaajnjddfcdeaaaGreatDoor

/- What the program of layer 12 keeps. -/
namespace Go.Proofs.YtaajnjddfcdeaaaGreatDoor
open Go.RowKit Go.Shelf

theorem keys12 {w : World} {A : Option Addr} {xs : List Cn} (h : CA w A xs) : K32 (xs.map Cn.k) := fun k hk => by
  obtain ⟨x, hx, rfl⟩ := List.mem_map.1 hk
  exact (h.ok x hx).key
set_option maxHeartbeats 8000000 in
set_option maxRecDepth 100000 in
/-- A list that is not sorted. -/
theorem apply_no (w : World) (b : Nat) (p : Option Addr) (A : Option Addr) (cA : Nat) (xs : List Cn) (hA : CA w A xs) (hn : xs.length ≤ 50) (h0 : chkK (xs.map Cn.k) ≠ 0) :
    Calls Tryz.prog 16 #[ptr b, .pointer p, .slice A xs.length cA] w fun x w' => x = .returned (.tuple #[.pointer none, .int .i64 (chkK (xs.map Cn.k))]) ∧ Below w.heap.size w w' := by
  have HCK := Lib.hid (check_c A cA xs w hA (by omega))
  obtain ⟨ck, hck⟩ : ∃ ck, ck = chkK (xs.map Cn.k) := ⟨_, rfl⟩
  rw [← hck] at HCK h0 ⊢
  have b0 : (ck != 0) = true := by simpa using h0
  have b1 : decide (ck = 0) = false := decide_eq_false h0
  unfold ptr
  clear hA hn hck
  go_enter Tryz.func16, Tryz.ntmps16
  go_wp2_with fail
  refine HCK.out.mono ?_
  rintro _ w1 ⟨g1, rfl, _, hB1⟩
  have zs := zeroSo
  obtain ⟨SV, hSV⟩ : ∃ v, v = srtC (.slice (some ⟨g1, 0, none⟩) xs.length xs.length) (.slice A xs.length cA) := ⟨_, rfl⟩
  obtain ⟨Y, hY⟩ : ∃ Y, Y = w1.alloc (.cells SV 84) := ⟨_, rfl⟩
  have st0 : stA 84 (w1.alloc (.cells (srtC (.slice none 0 0) (.slice none 0 0)) 84)) (.pointer (some ⟨w1.heap.size, 0, none⟩)) (.agg SV) = .ok .skip Y := by rw [hY, hSV]; exact stA_new w1 _ _ infoSo rfl (srt_one _ _ _ _ _ _)
  have HBY : Hid (Below w.heap.size w Y) := by rw [hY]; exact (hB1.alloc hB1.size _)
  rw [← hSV]
  clear hB1 hSV hY HCK h0
  go_wp2_with fail
  go_ret2
  exact ⟨rfl, HBY.out⟩
set_option maxHeartbeats 8000000 in
set_option maxRecDepth 100000 in
theorem apply_yes (w : World) (b : Nat) (n : Int) (c : Nat) (l : List Ent) (T : Tv) (A : Option Addr) (cA : Nat) (xs : List Cn) (hh : Hs w b n c) (hc : c ≤ 400000) (hv : Vars w) (hM : Mn w n T) (hI : IsMap l T) (hl : l.length ≤ 1000) (hA : CA w A xs) (hcA : xs.length ≤ cA) (hn : xs.length ≤ 50) (hxv : ∀ x ∈ xs, x.v.length ≤ 1000) (h0 : chkK (xs.map Cn.k) = 0) :
    Calls Tryz.prog 16 #[ptr b, T.val, .slice A xs.length cA] w fun x w' => ∃ T', x = .returned (.tuple #[T'.val, .int .i64 0]) ∧ IsMap (appC l (xs.map Cn.chg)) T' ∧ Made Mn w b n T T' (c + 90000) w' := by
  have HCK := Lib.hid (check_c A cA xs w hA (by omega))
  rw [h0] at HCK
  have hks : AscS (xs.map Cn.k) := chk_asc _ (keys12 hA) h0
  obtain ⟨pT, hpT⟩ := val_ptr nd_c hM
  have hcost : cost12 xs.length 0 ≤ 90000 := by unfold cost12; omega
  have HAL : Hid (∀ Y g, Below w.heap.size w Y → KS Y (some ⟨g, 0, none⟩) (xs.map Cn.k) → Calls Tryz.prog 42 #[.pointer (some ⟨b, 0, none⟩), .pointer pT, .agg (srtC (.slice (some ⟨g, 0, none⟩) xs.length xs.length) (.slice A xs.length cA)), .int .i64 0] Y fun e w' => ∃ T', e = .returned T'.val ∧ IsMap (appC l (xs.map Cn.chg)) T' ∧ Made Mn w b n T T' (c + 90000) w') := fun Y g hY hk => by
    have h := apply_all 256 0 rfl Y c l T xs (some ⟨g, 0, none⟩) A xs.length cA (hs_bel12 hh hY) (by omega) (hv.below hY) (nd_c.below hM hY) hI.sub (by omega) (by omega) (by omega) (AptC.zero fun x hx => by
      obtain ⟨y, hy, rfl⟩ := List.mem_map.1 hx
      exact (hA.ok y hy).key) hks hk (hA.below hY) (Nat.le_refl _) hcA hxv
    rw [hpT] at h
    refine Calls.mono h ?_
    rintro _ w' ⟨T', rfl, h1, h2⟩
    exact ⟨T', rfl, h1.map, (h2.bel12 hY).le12 (by omega)⟩
  rw [hpT]
  unfold ptr
  clear hh hc hv hM hI hl hA hcA hn hxv h0 hks hpT hcost
  go_enter Tryz.func16, Tryz.ntmps16
  go_wp2_with fail
  refine HCK.out.mono ?_
  rintro _ w1 ⟨g1, rfl, hk1, hB1⟩
  have zs := zeroSo
  obtain ⟨SV, hSV⟩ : ∃ v, v = srtC (.slice (some ⟨g1, 0, none⟩) xs.length xs.length) (.slice A xs.length cA) := ⟨_, rfl⟩
  obtain ⟨Y, hY⟩ : ∃ Y, Y = w1.alloc (.cells SV 84) := ⟨_, rfl⟩
  have st0 : stA 84 (w1.alloc (.cells (srtC (.slice none 0 0) (.slice none 0 0)) 84)) (.pointer (some ⟨w1.heap.size, 0, none⟩)) (.agg SV) = .ok .skip Y := by rw [hY, hSV]; exact stA_new w1 _ _ infoSo rfl (srt_one _ _ _ _ _ _)
  have ls : ldA 84 Y (.pointer (some ⟨w1.heap.size, 0, none⟩)) = .ok (.value (.agg SV)) Y := by rw [hY, hSV]; exact ldSo (heap_alloc_new w1 _)
  have hbY : Below w1.heap.size w1 Y := by rw [hY]; exact (Below.refl _ _).alloc (Nat.le_refl _) _
  have HA := Lib.hid (HAL.out Y g1 (hB1.trans (hbY.mono hB1.size)) (hk1.below hbY))
  rw [← hSV] at HA ⊢
  clear hB1 hSV hY hbY hk1 HCK HAL
  go_wp2_with fail
  refine HA.out.mono ?_
  rintro _ w3 ⟨T', rfl, h1, h2⟩
  obtain ⟨p', hp'⟩ := val_ptr nd_c h2.ms
  rw [hp']
  have HP := Lib.hid hp'
  have HF : Hid (IsMap (appC l (xs.map Cn.chg)) T' ∧ Made Mn w b n T T' (c + 90000) w3) := ⟨h1, h2⟩
  clear h1 h2 hp' HA ls st0 zs
  go_wp2_with fail
  go_ret2
  exact ⟨T', by rw [HP.out]; rfl, HF.out⟩
theorem en_chg (es : List En) : (es.map En.cn).map Cn.k = es.map En.k := by rw [List.map_map]; rfl
theorem app_of (es : List En) : ∀ l : List Ent, appC l ((es.map En.cn).map Cn.chg) = (es.map En.ent).foldl putK l := by
  induction es with
  | nil => exact fun l => rfl
  | cons e r ih => exact fun l => ih (putK l e.ent)
theorem asc_ents {es : List En} (hk : ∀ e ∈ es, e.k.length = 32) (h0 : chkK (es.map En.k) = 0) : Asc (es.map En.ent) := by
  have h := chk_asc (es.map En.k) (fun k hk2 => by obtain ⟨e, he, rfl⟩ := List.mem_map.1 hk2; exact hk e he) h0
  unfold AscS at h
  rw [show es.map En.k = (es.map En.ent).map Ent.k by rw [List.map_map]; rfl, List.pairwise_map] at h
  exact h
set_option maxHeartbeats 8000000 in
set_option maxRecDepth 100000 in
theorem build_no (w : World) (b : Nat) (A : Option Addr) (cA : Nat) (es : List En) (hA : EA w A es) (hn : es.length ≤ 50) (h0 : chkK (es.map En.k) ≠ 0) :
    Calls Tryz.prog 11 #[ptr b, .slice A es.length cA] w fun x w' => x = .returned (.tuple #[.pointer none, .int .i64 (chkK (es.map En.k))]) ∧ Below w.heap.size w w' := by
  have HCO := Lib.hid (collect_ec A cA es w hA (by omega))
  have HAP : Hid (∀ z g, CA z (some ⟨g, 0, none⟩) (es.map En.cn) → Calls Tryz.prog 16 #[.pointer (some ⟨b, 0, none⟩), .pointer none, .slice (some ⟨g, 0, none⟩) es.length es.length] z fun x w' => x = .returned (.tuple #[.pointer none, .int .i64 (chkK (es.map En.k))]) ∧ Below z.heap.size z w') := fun z g hz => by
    have h := apply_no z b none (some ⟨g, 0, none⟩) es.length (es.map En.cn) hz (by rw [List.length_map]; exact hn) (by rw [en_chg]; exact h0)
    rw [List.length_map, en_chg] at h
    exact h
  unfold ptr
  clear hA hn h0
  go_enter Tryz.func11, Tryz.ntmps11
  go_wp2_with fail
  refine HCO.out.mono ?_
  rintro _ w1 ⟨g, _, rfl, hca, hB1⟩
  have HA := Lib.hid (HAP.out w1 g hca)
  have HB1 := Lib.hid hB1
  clear hca hB1 HCO HAP
  go_wp2_with fail
  refine HA.out.mono ?_
  rintro _ w2 ⟨rfl, hB2⟩
  have HB2 := Lib.hid (HB1.out.trans (hB2.mono HB1.out.size))
  clear hB2 HA
  go_wp2_with fail
  go_ret2
  exact ⟨rfl, HB2.out⟩
set_option maxHeartbeats 8000000 in
set_option maxRecDepth 100000 in
theorem build_yes (w : World) (b : Nat) (n : Int) (c : Nat) (A : Option Addr) (cA : Nat) (es : List En) (hh : Hs w b n c) (hc : c ≤ 400000) (hv : Vars w) (hA : EA w A es) (hn : es.length ≤ 50) (hxv : ∀ e ∈ es, e.v.length ≤ 1000) (h0 : chkK (es.map En.k) = 0) :
    Calls Tryz.prog 11 #[ptr b, .slice A es.length cA] w fun x w' => ∃ T', x = .returned (.tuple #[T'.val, .int .i64 0]) ∧ IsMap (es.map En.ent) T' ∧ Made Mn w b n .nil T' (c + 90000) w' := by
  have HCO := Lib.hid (collect_ec A cA es w hA (by omega))
  have hap : appC [] ((es.map En.cn).map Cn.chg) = es.map En.ent := by rw [app_of]; exact ofK_sorted (asc_ents (fun e he => (hA.mem e he).key) h0)
  have hnil : IsMap [] Tv.nil := ⟨⟨fun a ha => (by cases ha), List.Pairwise.nil, fun a ha => (by cases ha)⟩, by rw [growT_none]; rfl⟩
  have HAP : Hid (∀ z g, Below w.heap.size w z → CA z (some ⟨g, 0, none⟩) (es.map En.cn) → Calls Tryz.prog 16 #[.pointer (some ⟨b, 0, none⟩), .pointer none, .slice (some ⟨g, 0, none⟩) es.length es.length] z fun x w' => ∃ T', x = .returned (.tuple #[T'.val, .int .i64 0]) ∧ IsMap (es.map En.ent) T' ∧ Made Mn w b n .nil T' (c + 90000) w') := fun z g hz hca => by
    have h := apply_yes z b n c [] .nil (some ⟨g, 0, none⟩) es.length (es.map En.cn) (hs_bel12 hh hz) hc (hv.below hz) trivial hnil (by simp) hca (by rw [List.length_map]; exact Nat.le_refl _) (by rw [List.length_map]; exact hn) (fun x hx => by obtain ⟨e, he, rfl⟩ := List.mem_map.1 hx; exact hxv e he) (by rw [en_chg]; exact h0)
    rw [List.length_map, hap] at h
    refine Calls.mono h ?_
    rintro _ w' ⟨T', rfl, h1, h2⟩
    exact ⟨T', rfl, h1, h2.bel12 hz⟩
  unfold ptr
  clear hA hn h0 hh hc hv hxv hap hnil
  go_enter Tryz.func11, Tryz.ntmps11
  go_wp2_with fail
  refine HCO.out.mono ?_
  rintro _ w1 ⟨g, _, rfl, hca, hB1⟩
  have HA := Lib.hid (HAP.out w1 g hB1 hca)
  clear hca hB1 HCO HAP
  go_wp2_with fail
  refine HA.out.mono ?_
  rintro _ w2 ⟨T', rfl, h1, h2⟩
  obtain ⟨p', hp'⟩ := val_ptr nd_c h2.ms
  rw [hp']
  have HP := Lib.hid hp'
  have HF : Hid (IsMap (es.map En.ent) T' ∧ Made Mn w b n .nil T' (c + 90000) w2) := ⟨h1, h2⟩
  clear h1 h2 hp' HA
  go_wp2_with fail
  go_ret2
  exact ⟨T', by rw [HP.out]; rfl, HF.out⟩
theorem refused12 {w w' : World} {b : Nat} {n : Int} {c m : Nat} (hh : Hs w b n c) (hm : c ≤ m) (hB : Below w.heap.size w w') : Refused w b n m w' := ⟨⟨c, hm, hs_bel12 hh hB⟩, Keep.of_below hB⟩
set_option maxHeartbeats 8000000 in
set_option maxRecDepth 100000 in
theorem undo_no (w : World) (p : Option Addr) (A : Option Addr) (cA : Nat) (xs : List Cn) (hA : CA w A xs) (hn : xs.length ≤ 50) (h0 : chkK (xs.map Cn.k) ≠ 0) :
    Calls Tryz.prog 23 #[.pointer p, .slice A xs.length cA] w fun x w' => ∃ (A' : Option Addr) (c : Nat), x = .returned (.tuple #[.slice A' 0 c, .int .i64 (chkK (xs.map Cn.k))]) ∧ Below w.heap.size w w' := by
  have HCK := Lib.hid (check_c A cA xs w hA (by omega))
  obtain ⟨ck, hck⟩ : ∃ ck, ck = chkK (xs.map Cn.k) := ⟨_, rfl⟩
  rw [← hck] at HCK h0 ⊢
  have b0 : (ck != 0) = true := by simpa using h0
  have b1 : decide (ck = 0) = false := decide_eq_false h0
  clear hA hn hck
  go_enter Tryz.func23, Tryz.ntmps23
  go_wp2_with fail
  refine HCK.out.mono ?_
  rintro _ w1 ⟨g1, rfl, _, hB1⟩
  have zs := zeroSo
  obtain ⟨SV, hSV⟩ : ∃ v, v = srtC (.slice (some ⟨g1, 0, none⟩) xs.length xs.length) (.slice A xs.length cA) := ⟨_, rfl⟩
  obtain ⟨Y, hY⟩ : ∃ Y, Y = w1.alloc (.cells SV 84) := ⟨_, rfl⟩
  have st0 : stA 84 (w1.alloc (.cells (srtC (.slice none 0 0) (.slice none 0 0)) 84)) (.pointer (some ⟨w1.heap.size, 0, none⟩)) (.agg SV) = .ok .skip Y := by rw [hY, hSV]; exact stA_new w1 _ _ infoSo rfl (srt_one _ _ _ _ _ _)
  have HBY : Hid (Below w.heap.size w Y) := by rw [hY]; exact (hB1.alloc hB1.size _)
  rw [← hSV]
  clear hB1 hSV hY HCK h0
  go_wp2_with fail
  go_ret2
  exact ⟨none, 0, rfl, HBY.out⟩
theorem ba_c : BaV Mn where
  build := fun w b n c A cA es hh hc hv hA hn hxv => by
    by_cases h0 : chkK (es.map En.k) = 0
    · exact (build_yes w b n c A cA es hh hc hv hA hn hxv h0).mono fun _ _ h => ⟨fun _ => h, fun h1 => absurd h0 h1⟩
    · exact (build_no w b A cA es hA hn h0).mono fun _ _ ⟨h1, h2⟩ => ⟨fun h => absurd h h0, fun _ => ⟨h1, refused12 hh (Nat.le_add_right _ _) h2⟩⟩
  apply := fun w b n c l T A cA xs hh hc hv hM hI hl hA hcA hn hxv => by
    by_cases h0 : chkK (xs.map Cn.k) = 0
    · exact (apply_yes w b n c l T A cA xs hh hc hv hM hI hl hA hcA hn hxv h0).mono fun _ _ h => ⟨fun _ => h, fun h1 => absurd h0 h1⟩
    · obtain ⟨p, hp⟩ := val_ptr nd_c hM
      rw [hp]
      exact (apply_no w b p A cA xs hA hn h0).mono fun _ _ ⟨h1, h2⟩ => ⟨fun h => absurd h h0, fun _ => ⟨h1, refused12 hh (Nat.le_add_right _ _) h2⟩⟩
  diff := fun w n S T a b hS hT hIS hIT ha hb hl hm => diff_c nd_c w n S T a b hS hT hIS hIT ha hb hl hm
  undo := fun w n T l A cA xs hM hI ha _ hA hn _ => by
    by_cases h0 : chkK (xs.map Cn.k) = 0
    · exact (undo_c nd_c w n T l A cA xs hM hI ha hA hn h0).mono fun _ _ h => ⟨fun _ => h, fun h1 => absurd h0 h1⟩
    · obtain ⟨p, hp⟩ := val_ptr nd_c hM
      rw [hp]
      exact (undo_no w p A cA xs hA hn h0).mono fun _ _ h => ⟨fun h1 => absurd h1 h0, fun _ => h⟩
end Go.Proofs.YtaajnjddfcdeaaaGreatDoor
