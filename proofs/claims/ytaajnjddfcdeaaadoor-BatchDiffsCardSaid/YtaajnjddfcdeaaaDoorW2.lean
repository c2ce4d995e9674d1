/- Several texts in one: Wi Wj Wk Wz. -/
import Derived.Laws.BytesString
import Derived.Test.YtaajnjddfcdeaaaDoorW1
import Derived.Test.YtaajnjddfcdeaaaDoorMR
import Derived.Test.YtaajnjddfcdeaaaDoorJ2
import Derived.Test.YtaajnjddfcdeaaaDoorML
/- The program's closures of differences: bytes.Equal, the order, the visit (drawn regions by program: gen-tpl12-visit.py). -/
namespace Go.Proofs.YtaajnjddfcdeaaaDoor
open Go.RowKit Go.Shelf

theorem conv12 {w : World} {A : Option Addr} {l : List UInt8} (h : BA w A l) (c : Nat) : (convert 45 9 (.slice A l.length c)).run Tryd.prog w = .ok (.string ⟨l.toArray⟩) w := by
  cases A with
  | none =>
    have e : l = [] := by
      cases l with
      | nil => rfl
      | cons x l => obtain ⟨b, o, e, _⟩ := h 0 x rfl; cases e
    subst e
    rw [List.length_nil, run_convert_bytes_string w 45 9 5 none 0 c Tryd.underlying45 Tryd.underlying5 Tryd.underlying9]
    rfl
  | some a =>
    refine run_convert_bytes_back w 45 9 5 a c l Tryd.underlying45 Tryd.underlying5 Tryd.underlying9 fun j hj => ?_
    obtain ⟨b, o, e, hc⟩ := h j l[j] (List.getElem?_eq_getElem hj)
    simp only [Option.some.injEq] at e
    subst e
    rw [Addr.add_mid]
    exact hc
set_option maxHeartbeats 8000000 in
set_option maxRecDepth 100000 in
theorem equal_c (A B : Option Addr) (c d : Nat) (l m : List UInt8) (w : World) (hA : BA w A l) (hB : BA w B m) :
    Calls Tryd.prog 37 #[.slice A l.length c, .slice B m.length d] w fun e w' => e = .returned (.bool (decide (l = m))) ∧ w = w' := by
  have c1 := conv12 hA c
  have c2 := conv12 hB d
  clear hA hB
  go_enter Tryd.func37, Tryd.ntmps37
  go_wp2_with fail
  go_ret
  refine ⟨?_, rfl⟩
  rw [show (l == m) = decide (l = m) by by_cases h : l = m <;> simp [h]]
  rfl
/-! ### The order -/
set_option maxHeartbeats 8000000 in
set_option maxRecDepth 100000 in
theorem order_c (e f : En) (he : e.k.length = 32) (hf : f.k.length = 32) (w : World) : Calls Tryd.prog 33 #[.agg (enC e).toArray, .agg (enC f).toArray] w fun x w' => x = .returned (.int .i64 (cmpK e.k f.k)) ∧ Below w.heap.size w w' := by
  obtain ⟨X, hX⟩ : ∃ X, X = (w.alloc (.cells (enC e).toArray 47)).alloc (.cells (enC f).toArray 47) := ⟨_, rfl⟩
  have hb1 := (Below.refl w.heap.size w).alloc (Nat.le_refl _) (.cells (enC e).toArray 47)
  have hbX : Below w.heap.size w X := by rw [hX]; exact hb1.alloc (by simp) _
  have r1 : X.rangeAt w.heap.size 0 (enC e) := by rw [hX]; exact World.rangeAt_alloc (ent_made w e _) _
  have r2 : X.rangeAt (w.heap.size + 1) 0 (enC f) := by
    have := ent_made (w.alloc (.cells (enC e).toArray 47)) f 47
    rw [show (w.alloc (.cells (enC e).toArray 47)).heap.size = w.heap.size + 1 by simp] at this
    rw [hX]; exact this
  have l1 := range_key r1 he
  have l2 := range_key r2 hf
  have HCM := Lib.hid (cmpP12_c e.k f.k he hf X)
  have HX := Lib.hid hX
  have HBX := Lib.hid hbX
  rw [hX] at l1 l2
  clear hX hb1 hbX r1 r2 he hf
  go_enter Tryd.func33, Tryd.ntmps33
  go_wp2_with fail
  rw [← HX.out]
  refine HCM.out.mono ?_
  rintro _ w1 ⟨rfl, hB⟩
  have HB := Lib.hid (HBX.out.trans (hB.mono HBX.out.size))
  clear hB
  go_wp2_with fail
  go_ret
  exact ⟨rfl, HB.out⟩
/-! ### The visit -/
/-- What the loops of differences keep: the changes so far, in the variable at block w.heap.size. -/
def VsI (w : World) (ys : List Cn) (X : World) : Prop := Below w.heap.size w X ∧ ∃ v, X.heap[w.heap.size]? = some (.cells #[v] 30 (0, 0)) ∧ OwnC 50 X (w.heap.size + 1) v ys ∧ ∀ y ∈ ys, CnOk w y
theorem VsI.below {w : World} {ys : List Cn} {X Y : World} (h : VsI w ys X) (hb : Below X.heap.size X Y) : VsI w ys Y := by
  obtain ⟨h0, v, h1, h2, h3⟩ := h
  exact ⟨h0.trans (hb.mono h0.size), v, (hb.block _ (lt_of_heap h1)).trans h1, h2.below hb, h3⟩
theorem VsI.push12 {w : World} {ys : List Cn} {X w9 : World} {v v9 : Value} {xx : Cn} (h0 : Below w.heap.size w X) (h3 : ∀ y ∈ ys, CnOk w y) (hq : Below (w.heap.size + 1) X w9) (hc : w9.heap[w.heap.size]? = some (.cells #[v] 30 (0, 0))) (ho : OwnC 50 w9 (w.heap.size + 1) v9 (ys ++ [xx])) (hx : CnOk w xx) :
    VsI w (ys ++ [xx]) (w9.setCell ⟨w.heap.size, 0, none⟩ v9) := by
  have hk := Keep.cell w9 ⟨w.heap.size, 0, none⟩ v9
  refine ⟨(h0.trans (hq.mono (Nat.le_succ _))).setCell (Nat.le_refl _) _, v9, set_row hc, row11_keep ho hk fun g hg e => ?_, fun y hy => ?_⟩
  · have e2 : g = w.heap.size := e
    have := ho.ge g hg
    omega
  · rcases List.mem_append.1 hy with hy | hy
    · exact h3 y hy
    · rw [List.mem_singleton.1 hy]; exact hx
theorem eqE_nn (w : World) : (binOp .eql 79 (.pointer none) (.pointer none)).run Tryd.prog w = .ok (.bool true) w := by kernel_rfl
theorem eqE_sn (a : Addr) (w : World) : (binOp .eql 79 (.pointer (some a)) (.pointer none)).run Tryd.prog w = .ok (.bool false) w := by kernel_rfl
theorem bldCb_delf (f : Nat → UInt8) (w : World) : bldA 50 w #[(0, .agg (bA ((List.range 32).map f))), (2, .bool true)] = .ok (.value (.agg (((List.range 32).map f).map bv ++ [Value.slice none 0 0, Value.bool true]).toArray)) w := by kernel_rfl
theorem bldCb_del (k : List UInt8) (hk : k.length = 32) (w : World) : bldA 50 w #[(0, .agg (bA k)), (2, .bool true)] = .ok (.value (.agg (cnC ⟨k, none, [], 0, true⟩).toArray)) w := by
  have := bldCb_delf (fun j => k.getD j 0) w
  rw [← list32 k hk] at this
  exact this
def delC (e : En) : Cn := ⟨e.k, none, [], 0, true⟩
set_option maxHeartbeats 8000000 in
set_option maxRecDepth 100000 in
theorem visit_del (w X : World) (ys : List Cn) (g o : Nat) (e : En) (hV : VsI w ys X) (he : EnOk w e) (hr : w.rangeAt g o (enC e)) (hl : ys.length ≤ 1000) :
    Calls Tryd.prog 36 #[.pointer (some ⟨g, o, none⟩), .pointer none, .pointer (some ⟨w.heap.size, 0, none⟩)] X fun x Y => x = .returned (.tuple #[]) ∧ VsI w (ys ++ [delC e]) Y := by
  obtain ⟨h0, v, h1, h2, h3⟩ := hV
  have LV : Hid (∀ q, Below (w.heap.size + 1) X q → q.cell? ⟨w.heap.size, 0, none⟩ = some v ∧ ldA 44 q (.pointer (some ⟨g, o, none⟩)) = .ok (.value (.agg (bA e.k))) q) := fun q hq => by
    have hc : q.heap[w.heap.size]? = some (.cells #[v] 30 (0, 0)) := (hq.block _ (Nat.lt_succ_self _)).trans h1
    exact ⟨by rw [cell_of_cells hc]; rfl, range_key (range_below hr (h0.trans (hq.mono (Nat.le_succ _)))) he.key⟩
  obtain ⟨xx, hxx⟩ : ∃ xx, xx = delC e := ⟨_, rfl⟩
  have HXK : Hid (xx.k.length = 32) := by rw [hxx]; exact he.key
  have HXO : Hid (CnOk w xx) := by rw [hxx]; exact ⟨he.key, Nat.le_refl 0, ba_nil12 _ _⟩
  have bl : ∀ w, bldA 50 w #[(0, .agg (bA e.k)), (2, .bool true)] = .ok (.value (.agg (cnC xx).toArray)) w := fun w => by rw [hxx]; exact bldCb_del e.k he.key w
  have HVS : Hid (Below w.heap.size w X ∧ ∀ y ∈ ys, CnOk w y) := ⟨h0, h3⟩
  have HOW := Lib.hid h2
  have HLC := Lib.hid h1
  have HXS : Hid (w.heap.size + 1 ≤ X.heap.size) := lt_of_heap h1
  have HYL : Hid (ys.length ≤ 1000000) := by show _ ≤ _; omega
  have e0 := eqE_nn
  rw [← hxx]
  clear h0 h1 h2 h3 hxx he hr hl
  go_enter Tryd.func36, Tryd.ntmps36
  go_wp2_with fail
  clear e0
  refine region_heldT 8 (fun q => Below (w.heap.size + 1) X q) (by kernel_rfl) ?_
  have hHeld : Below (w.heap.size + 1) X X.drew := (Below.refl _ _).drew
  refine HeldT.take (i := 0) (oi := { dst := some 8, op := .load _ (.tmp 2), type := _, pos := _, after := _, guard := _ }) (v := ?_) rfl (by kernel_rfl) (by kernel_rfl) (by kernel_rfl) (by kernel_rfl) (fun _ _ _ h => h) (Or.inl ⟨by rfl, ?_⟩) (by assumption) ?_
  rotate_left 1
  · intro v hSv
    have hv1 := LV.out v hSv |>.1
    clear hSv
    go_simp
    try with_reducible rfl
  try simp only [Act.put, List.setIfInBounds_toArray, List.set_cons_zero, List.set_cons_succ]
  refine HeldT.take (i := 1) (oi := { dst := some 9, op := .move (.tmp 0), type := _, pos := _, after := _, guard := _ }) (v := ?_) rfl (by kernel_rfl) (by kernel_rfl) (by kernel_rfl) (by kernel_rfl) (fun _ _ _ h => h) (Or.inl ⟨by rfl, ?_⟩) (by assumption) ?_
  rotate_left 1
  · intro v hSv
    clear hSv
    go_simp
    try with_reducible rfl
  try simp only [Act.put, List.setIfInBounds_toArray, List.set_cons_zero, List.set_cons_succ]
  refine HeldT.take (i := 2) (oi := { dst := some 10, op := .nilCheck (.tmp 9), type := _, pos := _, after := _, guard := _ }) (v := ?_) rfl (by kernel_rfl) (by kernel_rfl) (by kernel_rfl) (by kernel_rfl) (fun _ _ _ h => h) (Or.inl ⟨by rfl, ?_⟩) (by assumption) ?_
  rotate_left 1
  · intro v hSv
    clear hSv
    go_simp
    try with_reducible rfl
  try simp only [Act.put, List.setIfInBounds_toArray, List.set_cons_zero, List.set_cons_succ]
  refine HeldT.take (i := 3) (oi := { dst := some 11, op := .fieldAddr _ (.tmp 10) 0, type := _, pos := _, after := _, guard := _ }) (v := ?_) rfl (by kernel_rfl) (by kernel_rfl) (by kernel_rfl) (by kernel_rfl) (fun _ _ _ h => h) (Or.inl ⟨by rfl, ?_⟩) (by assumption) ?_
  rotate_left 1
  · intro v hSv
    clear hSv
    go_simp
    try with_reducible rfl
  try simp only [Act.put, List.setIfInBounds_toArray, List.set_cons_zero, List.set_cons_succ]
  refine HeldT.take (i := 4) (oi := { dst := some 12, op := .load _ (.tmp 11), type := _, pos := _, after := _, guard := _ }) (v := ?_) rfl (by kernel_rfl) (by kernel_rfl) (by kernel_rfl) (by kernel_rfl) (fun _ _ _ h => h) (Or.inl ⟨by rfl, ?_⟩) (by assumption) ?_
  rotate_left 1
  · intro v hSv
    have hv1 := LV.out v hSv |>.2
    clear hSv
    go_simp
    try with_reducible rfl
  try simp only [Act.put, List.setIfInBounds_toArray, List.set_cons_zero, List.set_cons_succ]
  refine HeldT.take (i := 5) (oi := { dst := some 13, op := .build _ #[(0, .tmp 12), (2, .const (.bool true))], type := _, pos := _, after := _, guard := _ }) (v := ?_) rfl (by kernel_rfl) (by kernel_rfl) (by kernel_rfl) (by kernel_rfl) (fun _ _ _ h => h) (Or.inl ⟨by rfl, ?_⟩) (by assumption) ?_
  rotate_left 1
  · intro v hSv
    have hv1 := bl v
    clear hSv
    go_simp
    try with_reducible rfl
  try simp only [Act.put, List.setIfInBounds_toArray, List.set_cons_zero, List.set_cons_succ]
  refine HeldT.one (i := 6) (o := { dst := some 14, op := .buildSlice _ _ _, type := _, pos := _, after := _, guard := _ }) (by kernel_rfl) rfl rfl (fun K hK => ?_)
  obtain ⟨Z, hZ⟩ : ∃ Z, Z = (X.alloc (.cells (cnC xx).toArray 50)).drew := ⟨_, rfl⟩
  have hq1 : Below (w.heap.size + 1) X Z := by rw [hZ]; exact ((Below.refl _ _).alloc HXS.out _).drew
  have hbz : Below X.heap.size X Z := by rw [hZ]; exact ((Below.refl _ _).alloc (Nat.le_refl _) _).drew
  have hrg : Z.rangeAt X.heap.size 0 (cnC xx) := by rw [hZ]; exact (World.rangeAt_drew _ _ _ _).2 (cn_made X xx _)
  have HQ1 := Lib.hid hq1
  have HBZ := Lib.hid hbz
  have HRG := Lib.hid hrg
  have HZ := Lib.hid hZ
  clear hZ hbz hrg
  have bs := bsCb_one xx HXK.out
  go_wp2_with fail
  rw [← HZ.out]
  refine hK.out _ _ (fun _ => hq1) (fun hS => ?_)
  have hHeld := hS (by decide)
  clear hS hK K
  try simp only [Act.put, List.setIfInBounds_toArray, List.set_cons_zero, List.set_cons_succ]
  clear hq1 HZ bs
  refine HeldT.one (i := 7) (o := { dst := some 15, op := .call _, type := _, pos := _, after := _, guard := _ }) (by kernel_rfl) rfl rfl (fun K hK => ?_)
  have HOZ := Lib.hid (OwnC.below HOW.out HBZ.out)
  have hzs : w.heap.size + 1 ≤ Z.heap.size := Nat.le_trans HXS.out HBZ.out.size
  go_wp2_with (at_builtin; refine wpList_pushC Tryd.underlying30 infoCb rfl _ _ rfl (w.heap.size + 1) v ys rfl HOZ.out X.heap.size xx HXK.out rfl HRG.out HYL.out hzs ?_; intro v9 w9 hO9 hG9)
  have hb9 : Below (w.heap.size + 1) Z w9 := (Below.refl _ _).grown hG9.by_ hzs fun k hk => (row11_lt HOZ.out k hk).1
  have hq9 := HQ1.out.trans hb9
  have HO9 := Lib.hid hO9
  have HQ9 := Lib.hid hq9
  clear hO9 hG9 hb9 hzs
  refine hK.out _ _ (fun _ => hq9) (fun hS => ?_)
  have hHeld := hS (by decide)
  clear hS hK K
  try simp only [Act.put, List.setIfInBounds_toArray, List.set_cons_zero, List.set_cons_succ]
  clear hq9 HOZ HQ1 HBZ HRG
  refine HeldT.one (i := 8) (o := { dst := none, op := .store _ (.tmp 2) (.tmp 15), type := _, pos := _, after := _, guard := _ }) (by kernel_rfl) rfl rfl (fun K hK => ?_)
  have hc9 : w9.heap[w.heap.size]? = some (.cells #[v] 30 (0, 0)) := (HQ9.out.block _ (Nat.lt_succ_self _)).trans HLC.out
  have s1 : w9.cell? ⟨w.heap.size, 0, none⟩ = some v := by rw [cell_of_cells hc9]; rfl
  have s2 : w9.frozen? ⟨w.heap.size, 0, none⟩ = false := frozen_of_row w9 _ _ _ _ hc9
  obtain ⟨A9, c9, rfl, _⟩ := HO9.out.len
  obtain ⟨n9, hn9⟩ : ∃ n, n = (ys ++ [xx]).length := ⟨_, rfl⟩
  have HN9 := Lib.hid hn9
  have HC9 := Lib.hid hc9
  rw [← hn9]
  clear hn9 hc9
  go_wp2_with fail
  refine hK.out _ _ (fun h => absurd rfl h) (fun _ => ?_)
  clear hK K
  refine HeldT.done (by kernel_rfl) ?_ _
  go_wp2_with fail
  refine bodyPost_end (results_none rfl _ _ _) rfl ⟨rfl, ?_⟩
  rw [HN9.out]
  exact VsI.push12 HVS.out.1 HVS.out.2 HQ9.out HC9.out HO9.out HXO.out
set_option maxHeartbeats 8000000 in
set_option maxRecDepth 100000 in
theorem visit_new (w X : World) (ys : List Cn) (g o : Nat) (f : En) (hV : VsI w ys X) (hf : EnOk w f) (hr : w.rangeAt g o (enC f)) (hl : ys.length ≤ 1000) :
    Calls Tryd.prog 36 #[.pointer none, .pointer (some ⟨g, o, none⟩), .pointer (some ⟨w.heap.size, 0, none⟩)] X fun x Y => x = .returned (.tuple #[]) ∧ VsI w (ys ++ [f.cn]) Y := by
  have HV := Lib.hid hV
  have HFO := Lib.hid hf
  have HRF := Lib.hid hr
  have HYL : Hid (ys.length ≤ 1000000) := by show _ ≤ _; omega
  obtain ⟨xx, hxx⟩ : ∃ xx, xx = En.cn f := ⟨_, rfl⟩
  have HXK : Hid (xx.k.length = 32) := by rw [hxx]; exact HFO.out.key
  have HXO : Hid (CnOk w xx) := by rw [hxx]; exact HFO.out.cn
  have HBL : Hid (∀ w, bldA 50 w #[(0, .agg (bA f.k)), (1, .slice f.A f.v.length f.c)] = .ok (.value (.agg (cnC xx).toArray)) w) := fun w => by rw [hxx]; exact bldCb_put f.k HFO.out.key f.A f.v f.c w
  rw [← hxx]
  clear hxx
  have e0 := eqE_nn
  have e1 := eqE_sn
  clear hV hf hr hl
  go_enter Tryd.func36, Tryd.ntmps36
  go_wp2_with fail
  refine wp_region_later (by kernel_rfl) (by kernel_rfl) ?_
  repeat (go_big_quiet_step (fail))
  refine wpQuiet_nil ?_
  rintro _ ⟨x, rfl⟩
  clear e0 e1
  obtain ⟨Y, hY⟩ : ∃ Y, Y = x.w := ⟨_, rfl⟩
  have hVY : VsI w ys Y := HV.out.below (by rw [hY]; exact x.h)
  rw [← hY]
  obtain ⟨h0, v, h1, h2, h3⟩ := hVY
  have LV : Hid (∀ q, Below (w.heap.size + 1) Y q → q.cell? ⟨w.heap.size, 0, none⟩ = some v ∧ ldA 44 q (.pointer (some ⟨g, o, none⟩)) = .ok (.value (.agg (bA f.k))) q ∧ q.cell? ⟨g, o + 32, none⟩ = some (.slice f.A f.v.length f.c)) := fun q hq => by
    have hc : q.heap[w.heap.size]? = some (.cells #[v] 30 (0, 0)) := (hq.block _ (Nat.lt_succ_self _)).trans h1
    have hrq := range_below HRF.out (h0.trans (hq.mono (Nat.le_succ _)))
    exact ⟨by rw [cell_of_cells hc]; rfl, range_key hrq HFO.out.key, range_val hrq HFO.out.key⟩
  have bl := HBL.out
  have HVS : Hid (Below w.heap.size w Y ∧ ∀ y ∈ ys, CnOk w y) := ⟨h0, h3⟩
  have HOW := Lib.hid h2
  have HLC := Lib.hid h1
  have HXS : Hid (w.heap.size + 1 ≤ Y.heap.size) := lt_of_heap h1
  clear h0 h1 h2 h3 hY
  go_wp2_with fail
  refine region_heldT 12 (fun q => Below (w.heap.size + 1) Y q) (by kernel_rfl) ?_
  have hHeld : Below (w.heap.size + 1) Y Y.drew := (Below.refl _ _).drew
  refine HeldT.take (i := 0) (oi := { dst := some 31, op := .load _ (.tmp 2), type := _, pos := _, after := _, guard := _ }) (v := ?_) rfl (by kernel_rfl) (by kernel_rfl) (by kernel_rfl) (by kernel_rfl) (fun _ _ _ h => h) (Or.inl ⟨by rfl, ?_⟩) (by assumption) ?_
  rotate_left 1
  · intro v hSv
    have hv1 := LV.out v hSv |>.1
    clear hSv
    go_simp
    try with_reducible rfl
  try simp only [Act.put, List.setIfInBounds_toArray, List.set_cons_zero, List.set_cons_succ]
  refine HeldT.take (i := 1) (oi := { dst := some 32, op := .move (.tmp 1), type := _, pos := _, after := _, guard := _ }) (v := ?_) rfl (by kernel_rfl) (by kernel_rfl) (by kernel_rfl) (by kernel_rfl) (fun _ _ _ h => h) (Or.inl ⟨by rfl, ?_⟩) (by assumption) ?_
  rotate_left 1
  · intro v hSv
    clear hSv
    go_simp
    try with_reducible rfl
  try simp only [Act.put, List.setIfInBounds_toArray, List.set_cons_zero, List.set_cons_succ]
  refine HeldT.take (i := 2) (oi := { dst := some 33, op := .nilCheck (.tmp 32), type := _, pos := _, after := _, guard := _ }) (v := ?_) rfl (by kernel_rfl) (by kernel_rfl) (by kernel_rfl) (by kernel_rfl) (fun _ _ _ h => h) (Or.inl ⟨by rfl, ?_⟩) (by assumption) ?_
  rotate_left 1
  · intro v hSv
    clear hSv
    go_simp
    try with_reducible rfl
  try simp only [Act.put, List.setIfInBounds_toArray, List.set_cons_zero, List.set_cons_succ]
  refine HeldT.take (i := 3) (oi := { dst := some 34, op := .fieldAddr _ (.tmp 33) 0, type := _, pos := _, after := _, guard := _ }) (v := ?_) rfl (by kernel_rfl) (by kernel_rfl) (by kernel_rfl) (by kernel_rfl) (fun _ _ _ h => h) (Or.inl ⟨by rfl, ?_⟩) (by assumption) ?_
  rotate_left 1
  · intro v hSv
    clear hSv
    go_simp
    try with_reducible rfl
  try simp only [Act.put, List.setIfInBounds_toArray, List.set_cons_zero, List.set_cons_succ]
  refine HeldT.take (i := 4) (oi := { dst := some 35, op := .load _ (.tmp 34), type := _, pos := _, after := _, guard := _ }) (v := ?_) rfl (by kernel_rfl) (by kernel_rfl) (by kernel_rfl) (by kernel_rfl) (fun _ _ _ h => h) (Or.inl ⟨by rfl, ?_⟩) (by assumption) ?_
  rotate_left 1
  · intro v hSv
    have hv1 := LV.out v hSv |>.2.1
    clear hSv
    go_simp
    try with_reducible rfl
  try simp only [Act.put, List.setIfInBounds_toArray, List.set_cons_zero, List.set_cons_succ]
  refine HeldT.take (i := 5) (oi := { dst := some 36, op := .move (.tmp 1), type := _, pos := _, after := _, guard := _ }) (v := ?_) rfl (by kernel_rfl) (by kernel_rfl) (by kernel_rfl) (by kernel_rfl) (fun _ _ _ h => h) (Or.inl ⟨by rfl, ?_⟩) (by assumption) ?_
  rotate_left 1
  · intro v hSv
    clear hSv
    go_simp
    try with_reducible rfl
  try simp only [Act.put, List.setIfInBounds_toArray, List.set_cons_zero, List.set_cons_succ]
  refine HeldT.take (i := 6) (oi := { dst := some 37, op := .nilCheck (.tmp 36), type := _, pos := _, after := _, guard := _ }) (v := ?_) rfl (by kernel_rfl) (by kernel_rfl) (by kernel_rfl) (by kernel_rfl) (fun _ _ _ h => h) (Or.inl ⟨by rfl, ?_⟩) (by assumption) ?_
  rotate_left 1
  · intro v hSv
    clear hSv
    go_simp
    try with_reducible rfl
  try simp only [Act.put, List.setIfInBounds_toArray, List.set_cons_zero, List.set_cons_succ]
  refine HeldT.take (i := 7) (oi := { dst := some 38, op := .fieldAddr _ (.tmp 37) 1, type := _, pos := _, after := _, guard := _ }) (v := ?_) rfl (by kernel_rfl) (by kernel_rfl) (by kernel_rfl) (by kernel_rfl) (fun _ _ _ h => h) (Or.inl ⟨by rfl, ?_⟩) (by assumption) ?_
  rotate_left 1
  · intro v hSv
    clear hSv
    go_simp
    try with_reducible rfl
  try simp only [Act.put, List.setIfInBounds_toArray, List.set_cons_zero, List.set_cons_succ]
  refine HeldT.take (i := 8) (oi := { dst := some 39, op := .load _ (.tmp 38), type := _, pos := _, after := _, guard := _ }) (v := ?_) rfl (by kernel_rfl) (by kernel_rfl) (by kernel_rfl) (by kernel_rfl) (fun _ _ _ h => h) (Or.inl ⟨by rfl, ?_⟩) (by assumption) ?_
  rotate_left 1
  · intro v hSv
    have hv1 := LV.out v hSv |>.2.2
    clear hSv
    go_simp
    try with_reducible rfl
  try simp only [Act.put, List.setIfInBounds_toArray, List.set_cons_zero, List.set_cons_succ]
  refine HeldT.take (i := 9) (oi := { dst := some 40, op := .build _ #[(0, .tmp 35), (1, .tmp 39)], type := _, pos := _, after := _, guard := _ }) (v := ?_) rfl (by kernel_rfl) (by kernel_rfl) (by kernel_rfl) (by kernel_rfl) (fun _ _ _ h => h) (Or.inl ⟨by rfl, ?_⟩) (by assumption) ?_
  rotate_left 1
  · intro v hSv
    have hv1 := bl v
    clear hSv
    go_simp
    try with_reducible rfl
  try simp only [Act.put, List.setIfInBounds_toArray, List.set_cons_zero, List.set_cons_succ]
  refine HeldT.one (i := 10) (o := { dst := some 41, op := .buildSlice _ _ _, type := _, pos := _, after := _, guard := _ }) (by kernel_rfl) rfl rfl (fun K hK => ?_)
  obtain ⟨Z, hZ⟩ : ∃ Z, Z = (Y.alloc (.cells (cnC xx).toArray 50)).drew := ⟨_, rfl⟩
  have hq1 : Below (w.heap.size + 1) Y Z := by rw [hZ]; exact ((Below.refl _ _).alloc HXS.out _).drew
  have hbz : Below Y.heap.size Y Z := by rw [hZ]; exact ((Below.refl _ _).alloc (Nat.le_refl _) _).drew
  have hrg : Z.rangeAt Y.heap.size 0 (cnC xx) := by rw [hZ]; exact (World.rangeAt_drew _ _ _ _).2 (cn_made Y xx _)
  have HQ1 := Lib.hid hq1
  have HBZ := Lib.hid hbz
  have HRG := Lib.hid hrg
  have HZ := Lib.hid hZ
  clear hZ hbz hrg
  have bs := bsCb_one xx HXK.out
  go_wp2_with fail
  rw [← HZ.out]
  refine hK.out _ _ (fun _ => hq1) (fun hS => ?_)
  have hHeld := hS (by decide)
  clear hS hK K
  try simp only [Act.put, List.setIfInBounds_toArray, List.set_cons_zero, List.set_cons_succ]
  clear hq1 HZ bs
  refine HeldT.one (i := 11) (o := { dst := some 42, op := .call _, type := _, pos := _, after := _, guard := _ }) (by kernel_rfl) rfl rfl (fun K hK => ?_)
  have HOZ := Lib.hid (OwnC.below HOW.out HBZ.out)
  have hzs : w.heap.size + 1 ≤ Z.heap.size := Nat.le_trans HXS.out HBZ.out.size
  go_wp2_with (at_builtin; refine wpList_pushC Tryd.underlying30 infoCb rfl _ _ rfl (w.heap.size + 1) v ys rfl HOZ.out Y.heap.size xx HXK.out rfl HRG.out HYL.out hzs ?_; intro v9 w9 hO9 hG9)
  have hb9 : Below (w.heap.size + 1) Z w9 := (Below.refl _ _).grown hG9.by_ hzs fun k hk => (row11_lt HOZ.out k hk).1
  have hq9 := HQ1.out.trans hb9
  have HO9 := Lib.hid hO9
  have HQ9 := Lib.hid hq9
  clear hO9 hG9 hb9 hzs
  refine hK.out _ _ (fun _ => hq9) (fun hS => ?_)
  have hHeld := hS (by decide)
  clear hS hK K
  try simp only [Act.put, List.setIfInBounds_toArray, List.set_cons_zero, List.set_cons_succ]
  clear hq9 HOZ HQ1 HBZ HRG
  refine HeldT.one (i := 12) (o := { dst := none, op := .store _ (.tmp 2) (.tmp 42), type := _, pos := _, after := _, guard := _ }) (by kernel_rfl) rfl rfl (fun K hK => ?_)
  have hc9 : w9.heap[w.heap.size]? = some (.cells #[v] 30 (0, 0)) := (HQ9.out.block _ (Nat.lt_succ_self _)).trans HLC.out
  have s1 : w9.cell? ⟨w.heap.size, 0, none⟩ = some v := by rw [cell_of_cells hc9]; rfl
  have s2 : w9.frozen? ⟨w.heap.size, 0, none⟩ = false := frozen_of_row w9 _ _ _ _ hc9
  obtain ⟨A9, c9, rfl, _⟩ := HO9.out.len
  obtain ⟨n9, hn9⟩ : ∃ n, n = (ys ++ [xx]).length := ⟨_, rfl⟩
  have HN9 := Lib.hid hn9
  have HC9 := Lib.hid hc9
  rw [← hn9]
  clear hn9 hc9
  go_wp2_with fail
  refine hK.out _ _ (fun h => absurd rfl h) (fun _ => ?_)
  clear hK K
  refine HeldT.done (by kernel_rfl) ?_ _
  go_wp2_with fail
  refine bodyPost_end (results_none rfl _ _ _) rfl ⟨rfl, ?_⟩
  rw [HN9.out]
  exact VsI.push12 HVS.out.1 HVS.out.2 HQ9.out HC9.out HO9.out HXO.out
set_option maxHeartbeats 8000000 in
set_option maxRecDepth 100000 in
theorem visit_same (w X : World) (ys : List Cn) (g1 o1 g o : Nat) (e f : En) (hV : VsI w ys X) (he : EnOk w e) (hr1 : w.rangeAt g1 o1 (enC e)) (hf : EnOk w f) (hr : w.rangeAt g o (enC f)) (hq : e.v = f.v) :
    Calls Tryd.prog 36 #[.pointer (some ⟨g1, o1, none⟩), .pointer (some ⟨g, o, none⟩), .pointer (some ⟨w.heap.size, 0, none⟩)] X fun x Y => x = .returned (.tuple #[]) ∧ VsI w ys Y := by
  have hbX := hV.1
  have HEQ : Hid (∀ q : Later X, Calls Tryd.prog 37 #[.slice e.A e.v.length e.c, .slice f.A f.v.length f.c] q.w fun x w'' => x = .returned (.bool true) ∧ ∃ y : Later X, w'' = y.w) := fun q => by
    have hb := hbX.trans (q.h.mono hbX.size)
    refine (equal_c e.A f.A e.c f.c e.v f.v q.w (he.val.below hb) (hf.val.below hb)).mono ?_
    rintro _ _ ⟨rfl, rfl⟩
    exact ⟨by rw [decide_eq_true hq], q, rfl⟩
  have lv1 : ∀ q : Later X, q.w.cell? ⟨g1, o1 + 32, none⟩ = some (.slice e.A e.v.length e.c) := fun q => range_val (range_below hr1 (hbX.trans (q.h.mono hbX.size))) he.key
  have lv2 : ∀ q : Later X, q.w.cell? ⟨g, o + 32, none⟩ = some (.slice f.A f.v.length f.c) := fun q => range_val (range_below hr (hbX.trans (q.h.mono hbX.size))) hf.key
  have HV := Lib.hid hV
  have e1 := eqE_sn
  clear hbX hV he hr1 hf hr hq
  go_enter Tryd.func36, Tryd.ntmps36
  go_wp2_with fail
  refine wp_region_later (by kernel_rfl) (by kernel_rfl) ?_
  repeat (go_big_quiet_step ((go_at_call 37; exact HEQ.out _)))
  refine wpQuiet_nil ?_
  rintro _ ⟨x, rfl⟩
  clear e1 lv1 lv2
  have hVY := HV.out.below x.h
  have HVY := Lib.hid hVY
  clear hVY
  go_wp2_with fail
  refine bodyPost_end (results_none rfl _ _ _) rfl ⟨rfl, ?_⟩
  exact HVY.out
set_option maxHeartbeats 8000000 in
set_option maxRecDepth 100000 in
theorem visit_other (w X : World) (ys : List Cn) (g1 o1 g o : Nat) (e f : En) (hV : VsI w ys X) (he : EnOk w e) (hr1 : w.rangeAt g1 o1 (enC e)) (hf : EnOk w f) (hr : w.rangeAt g o (enC f)) (hl : ys.length ≤ 1000) (hq : ¬ e.v = f.v) :
    Calls Tryd.prog 36 #[.pointer (some ⟨g1, o1, none⟩), .pointer (some ⟨g, o, none⟩), .pointer (some ⟨w.heap.size, 0, none⟩)] X fun x Y => x = .returned (.tuple #[]) ∧ VsI w (ys ++ [f.cn]) Y := by
  have hbX := hV.1
  have HEQ : Hid (∀ q : Later X, Calls Tryd.prog 37 #[.slice e.A e.v.length e.c, .slice f.A f.v.length f.c] q.w fun x w'' => x = .returned (.bool false) ∧ ∃ y : Later X, w'' = y.w) := fun q => by
    have hb := hbX.trans (q.h.mono hbX.size)
    refine (equal_c e.A f.A e.c f.c e.v f.v q.w (he.val.below hb) (hf.val.below hb)).mono ?_
    rintro _ _ ⟨rfl, rfl⟩
    exact ⟨by rw [decide_eq_false hq], q, rfl⟩
  have lv1 : ∀ q : Later X, q.w.cell? ⟨g1, o1 + 32, none⟩ = some (.slice e.A e.v.length e.c) := fun q => range_val (range_below hr1 (hbX.trans (q.h.mono hbX.size))) he.key
  have lv2 : ∀ q : Later X, q.w.cell? ⟨g, o + 32, none⟩ = some (.slice f.A f.v.length f.c) := fun q => range_val (range_below hr (hbX.trans (q.h.mono hbX.size))) hf.key
  have HV := Lib.hid hV
  have HFO := Lib.hid hf
  have HRF := Lib.hid hr
  have HYL : Hid (ys.length ≤ 1000000) := by show _ ≤ _; omega
  obtain ⟨xx, hxx⟩ : ∃ xx, xx = En.cn f := ⟨_, rfl⟩
  have HXK : Hid (xx.k.length = 32) := by rw [hxx]; exact HFO.out.key
  have HXO : Hid (CnOk w xx) := by rw [hxx]; exact HFO.out.cn
  have HBL : Hid (∀ w, bldA 50 w #[(0, .agg (bA f.k)), (1, .slice f.A f.v.length f.c)] = .ok (.value (.agg (cnC xx).toArray)) w) := fun w => by rw [hxx]; exact bldCb_put f.k HFO.out.key f.A f.v f.c w
  rw [← hxx]
  clear hxx
  have e1 := eqE_sn
  clear hbX hV he hr1 hf hr hq hl
  go_enter Tryd.func36, Tryd.ntmps36
  go_wp2_with fail
  refine wp_region_later (by kernel_rfl) (by kernel_rfl) ?_
  repeat (go_big_quiet_step ((go_at_call 37; exact HEQ.out _)))
  refine wpQuiet_nil ?_
  rintro _ ⟨x, rfl⟩
  clear e1 lv1 lv2
  obtain ⟨Y, hY⟩ : ∃ Y, Y = x.w := ⟨_, rfl⟩
  have hVY : VsI w ys Y := HV.out.below (by rw [hY]; exact x.h)
  rw [← hY]
  obtain ⟨h0, v, h1, h2, h3⟩ := hVY
  have LV : Hid (∀ q, Below (w.heap.size + 1) Y q → q.cell? ⟨w.heap.size, 0, none⟩ = some v ∧ ldA 44 q (.pointer (some ⟨g, o, none⟩)) = .ok (.value (.agg (bA f.k))) q ∧ q.cell? ⟨g, o + 32, none⟩ = some (.slice f.A f.v.length f.c)) := fun q hq => by
    have hc : q.heap[w.heap.size]? = some (.cells #[v] 30 (0, 0)) := (hq.block _ (Nat.lt_succ_self _)).trans h1
    have hrq := range_below HRF.out (h0.trans (hq.mono (Nat.le_succ _)))
    exact ⟨by rw [cell_of_cells hc]; rfl, range_key hrq HFO.out.key, range_val hrq HFO.out.key⟩
  have bl := HBL.out
  have HVS : Hid (Below w.heap.size w Y ∧ ∀ y ∈ ys, CnOk w y) := ⟨h0, h3⟩
  have HOW := Lib.hid h2
  have HLC := Lib.hid h1
  have HXS : Hid (w.heap.size + 1 ≤ Y.heap.size) := lt_of_heap h1
  clear h0 h1 h2 h3 hY
  go_wp2_with fail
  refine region_heldT 12 (fun q => Below (w.heap.size + 1) Y q) (by kernel_rfl) ?_
  have hHeld : Below (w.heap.size + 1) Y Y.drew := (Below.refl _ _).drew
  refine HeldT.take (i := 0) (oi := { dst := some 31, op := .load _ (.tmp 2), type := _, pos := _, after := _, guard := _ }) (v := ?_) rfl (by kernel_rfl) (by kernel_rfl) (by kernel_rfl) (by kernel_rfl) (fun _ _ _ h => h) (Or.inl ⟨by rfl, ?_⟩) (by assumption) ?_
  rotate_left 1
  · intro v hSv
    have hv1 := LV.out v hSv |>.1
    clear hSv
    go_simp
    try with_reducible rfl
  try simp only [Act.put, List.setIfInBounds_toArray, List.set_cons_zero, List.set_cons_succ]
  refine HeldT.take (i := 1) (oi := { dst := some 32, op := .move (.tmp 1), type := _, pos := _, after := _, guard := _ }) (v := ?_) rfl (by kernel_rfl) (by kernel_rfl) (by kernel_rfl) (by kernel_rfl) (fun _ _ _ h => h) (Or.inl ⟨by rfl, ?_⟩) (by assumption) ?_
  rotate_left 1
  · intro v hSv
    clear hSv
    go_simp
    try with_reducible rfl
  try simp only [Act.put, List.setIfInBounds_toArray, List.set_cons_zero, List.set_cons_succ]
  refine HeldT.take (i := 2) (oi := { dst := some 33, op := .nilCheck (.tmp 32), type := _, pos := _, after := _, guard := _ }) (v := ?_) rfl (by kernel_rfl) (by kernel_rfl) (by kernel_rfl) (by kernel_rfl) (fun _ _ _ h => h) (Or.inl ⟨by rfl, ?_⟩) (by assumption) ?_
  rotate_left 1
  · intro v hSv
    clear hSv
    go_simp
    try with_reducible rfl
  try simp only [Act.put, List.setIfInBounds_toArray, List.set_cons_zero, List.set_cons_succ]
  refine HeldT.take (i := 3) (oi := { dst := some 34, op := .fieldAddr _ (.tmp 33) 0, type := _, pos := _, after := _, guard := _ }) (v := ?_) rfl (by kernel_rfl) (by kernel_rfl) (by kernel_rfl) (by kernel_rfl) (fun _ _ _ h => h) (Or.inl ⟨by rfl, ?_⟩) (by assumption) ?_
  rotate_left 1
  · intro v hSv
    clear hSv
    go_simp
    try with_reducible rfl
  try simp only [Act.put, List.setIfInBounds_toArray, List.set_cons_zero, List.set_cons_succ]
  refine HeldT.take (i := 4) (oi := { dst := some 35, op := .load _ (.tmp 34), type := _, pos := _, after := _, guard := _ }) (v := ?_) rfl (by kernel_rfl) (by kernel_rfl) (by kernel_rfl) (by kernel_rfl) (fun _ _ _ h => h) (Or.inl ⟨by rfl, ?_⟩) (by assumption) ?_
  rotate_left 1
  · intro v hSv
    have hv1 := LV.out v hSv |>.2.1
    clear hSv
    go_simp
    try with_reducible rfl
  try simp only [Act.put, List.setIfInBounds_toArray, List.set_cons_zero, List.set_cons_succ]
  refine HeldT.take (i := 5) (oi := { dst := some 36, op := .move (.tmp 1), type := _, pos := _, after := _, guard := _ }) (v := ?_) rfl (by kernel_rfl) (by kernel_rfl) (by kernel_rfl) (by kernel_rfl) (fun _ _ _ h => h) (Or.inl ⟨by rfl, ?_⟩) (by assumption) ?_
  rotate_left 1
  · intro v hSv
    clear hSv
    go_simp
    try with_reducible rfl
  try simp only [Act.put, List.setIfInBounds_toArray, List.set_cons_zero, List.set_cons_succ]
  refine HeldT.take (i := 6) (oi := { dst := some 37, op := .nilCheck (.tmp 36), type := _, pos := _, after := _, guard := _ }) (v := ?_) rfl (by kernel_rfl) (by kernel_rfl) (by kernel_rfl) (by kernel_rfl) (fun _ _ _ h => h) (Or.inl ⟨by rfl, ?_⟩) (by assumption) ?_
  rotate_left 1
  · intro v hSv
    clear hSv
    go_simp
    try with_reducible rfl
  try simp only [Act.put, List.setIfInBounds_toArray, List.set_cons_zero, List.set_cons_succ]
  refine HeldT.take (i := 7) (oi := { dst := some 38, op := .fieldAddr _ (.tmp 37) 1, type := _, pos := _, after := _, guard := _ }) (v := ?_) rfl (by kernel_rfl) (by kernel_rfl) (by kernel_rfl) (by kernel_rfl) (fun _ _ _ h => h) (Or.inl ⟨by rfl, ?_⟩) (by assumption) ?_
  rotate_left 1
  · intro v hSv
    clear hSv
    go_simp
    try with_reducible rfl
  try simp only [Act.put, List.setIfInBounds_toArray, List.set_cons_zero, List.set_cons_succ]
  refine HeldT.take (i := 8) (oi := { dst := some 39, op := .load _ (.tmp 38), type := _, pos := _, after := _, guard := _ }) (v := ?_) rfl (by kernel_rfl) (by kernel_rfl) (by kernel_rfl) (by kernel_rfl) (fun _ _ _ h => h) (Or.inl ⟨by rfl, ?_⟩) (by assumption) ?_
  rotate_left 1
  · intro v hSv
    have hv1 := LV.out v hSv |>.2.2
    clear hSv
    go_simp
    try with_reducible rfl
  try simp only [Act.put, List.setIfInBounds_toArray, List.set_cons_zero, List.set_cons_succ]
  refine HeldT.take (i := 9) (oi := { dst := some 40, op := .build _ #[(0, .tmp 35), (1, .tmp 39)], type := _, pos := _, after := _, guard := _ }) (v := ?_) rfl (by kernel_rfl) (by kernel_rfl) (by kernel_rfl) (by kernel_rfl) (fun _ _ _ h => h) (Or.inl ⟨by rfl, ?_⟩) (by assumption) ?_
  rotate_left 1
  · intro v hSv
    have hv1 := bl v
    clear hSv
    go_simp
    try with_reducible rfl
  try simp only [Act.put, List.setIfInBounds_toArray, List.set_cons_zero, List.set_cons_succ]
  refine HeldT.one (i := 10) (o := { dst := some 41, op := .buildSlice _ _ _, type := _, pos := _, after := _, guard := _ }) (by kernel_rfl) rfl rfl (fun K hK => ?_)
  obtain ⟨Z, hZ⟩ : ∃ Z, Z = (Y.alloc (.cells (cnC xx).toArray 50)).drew := ⟨_, rfl⟩
  have hq1 : Below (w.heap.size + 1) Y Z := by rw [hZ]; exact ((Below.refl _ _).alloc HXS.out _).drew
  have hbz : Below Y.heap.size Y Z := by rw [hZ]; exact ((Below.refl _ _).alloc (Nat.le_refl _) _).drew
  have hrg : Z.rangeAt Y.heap.size 0 (cnC xx) := by rw [hZ]; exact (World.rangeAt_drew _ _ _ _).2 (cn_made Y xx _)
  have HQ1 := Lib.hid hq1
  have HBZ := Lib.hid hbz
  have HRG := Lib.hid hrg
  have HZ := Lib.hid hZ
  clear hZ hbz hrg
  have bs := bsCb_one xx HXK.out
  go_wp2_with fail
  rw [← HZ.out]
  refine hK.out _ _ (fun _ => hq1) (fun hS => ?_)
  have hHeld := hS (by decide)
  clear hS hK K
  try simp only [Act.put, List.setIfInBounds_toArray, List.set_cons_zero, List.set_cons_succ]
  clear hq1 HZ bs
  refine HeldT.one (i := 11) (o := { dst := some 42, op := .call _, type := _, pos := _, after := _, guard := _ }) (by kernel_rfl) rfl rfl (fun K hK => ?_)
  have HOZ := Lib.hid (OwnC.below HOW.out HBZ.out)
  have hzs : w.heap.size + 1 ≤ Z.heap.size := Nat.le_trans HXS.out HBZ.out.size
  go_wp2_with (at_builtin; refine wpList_pushC Tryd.underlying30 infoCb rfl _ _ rfl (w.heap.size + 1) v ys rfl HOZ.out Y.heap.size xx HXK.out rfl HRG.out HYL.out hzs ?_; intro v9 w9 hO9 hG9)
  have hb9 : Below (w.heap.size + 1) Z w9 := (Below.refl _ _).grown hG9.by_ hzs fun k hk => (row11_lt HOZ.out k hk).1
  have hq9 := HQ1.out.trans hb9
  have HO9 := Lib.hid hO9
  have HQ9 := Lib.hid hq9
  clear hO9 hG9 hb9 hzs
  refine hK.out _ _ (fun _ => hq9) (fun hS => ?_)
  have hHeld := hS (by decide)
  clear hS hK K
  try simp only [Act.put, List.setIfInBounds_toArray, List.set_cons_zero, List.set_cons_succ]
  clear hq9 HOZ HQ1 HBZ HRG
  refine HeldT.one (i := 12) (o := { dst := none, op := .store _ (.tmp 2) (.tmp 42), type := _, pos := _, after := _, guard := _ }) (by kernel_rfl) rfl rfl (fun K hK => ?_)
  have hc9 : w9.heap[w.heap.size]? = some (.cells #[v] 30 (0, 0)) := (HQ9.out.block _ (Nat.lt_succ_self _)).trans HLC.out
  have s1 : w9.cell? ⟨w.heap.size, 0, none⟩ = some v := by rw [cell_of_cells hc9]; rfl
  have s2 : w9.frozen? ⟨w.heap.size, 0, none⟩ = false := frozen_of_row w9 _ _ _ _ hc9
  obtain ⟨A9, c9, rfl, _⟩ := HO9.out.len
  obtain ⟨n9, hn9⟩ : ∃ n, n = (ys ++ [xx]).length := ⟨_, rfl⟩
  have HN9 := Lib.hid hn9
  have HC9 := Lib.hid hc9
  rw [← hn9]
  clear hn9 hc9
  go_wp2_with fail
  refine hK.out _ _ (fun h => absurd rfl h) (fun _ => ?_)
  clear hK K
  refine HeldT.done (by kernel_rfl) ?_ _
  go_wp2_with fail
  refine bodyPost_end (results_none rfl _ _ _) rfl ⟨rfl, ?_⟩
  rw [HN9.out]
  exact VsI.push12 HVS.out.1 HVS.out.2 HQ9.out HC9.out HO9.out HXO.out
end Go.Proofs.YtaajnjddfcdeaaaDoor

/- The program's merge of two lists of entries. -/
namespace Go.Proofs.YtaajnjddfcdeaaaDoor
open Go.RowKit Go.Shelf

theorem cutOne {A : Option Addr} {n c : Nat} (w : World) : (Instr.sliceAt 22 (.slice A (n + 1) c) (some (.int .i64 1)) none none).run Tryd.prog w = .ok (.slice (cutA A c 1) n (c - 1)) w := by
  have h := cutE_from A (n + 1) c 1 (by omega) w
  rw [Nat.add_sub_cancel] at h
  exact h
/-- What is kept between the rounds. -/
structure MgI (w : World) (tot : List Chg) (A B : Option Addr) (ca cb : Nat) (es fs : List En) (ys : List Cn) (X : World) : Prop where
  ea : EA w A es
  eb : EA w B fs
  la : es.length ≤ ca
  lb : fs.length ≤ cb
  vs : VsI w ys X
  mg : ys.map Cn.chg ++ mergeC (es.map En.ent) (fs.map En.ent) = tot
  ln : ys.length + es.length + fs.length ≤ 300
theorem MgI.lt {w : World} {tot : List Chg} {A B : Option Addr} {ca cb : Nat} {e f : En} {es fs : List En} {ys : List Cn} {X Y : World} (h : MgI w tot A B ca cb (e :: es) (f :: fs) ys X) (hc : cmpK e.k f.k < 0) (hv : VsI w (ys ++ [delC e]) Y) : MgI w tot (cutA A ca 1) B (ca - 1) cb es (f :: fs) (ys ++ [delC e]) Y where
  ea := by have := h.ea.cut (c := ca) (n := 1) h.la; exact this
  eb := h.eb
  la := by have := h.la; rw [List.length_cons] at this; omega
  lb := h.lb
  vs := hv
  mg := by
    have h1 := h.mg
    rw [List.map_cons, List.map_cons, mergeC, if_pos (show cmpK e.ent.k f.ent.k < 0 from hc)] at h1
    rw [List.map_append, List.append_assoc, List.map_cons]
    exact h1
  ln := by have := h.ln; rw [List.length_append]; simp at this ⊢; omega
theorem MgI.gt {w : World} {tot : List Chg} {A B : Option Addr} {ca cb : Nat} {e f : En} {es fs : List En} {ys : List Cn} {X Y : World} (h : MgI w tot A B ca cb (e :: es) (f :: fs) ys X) (hc : 0 < cmpK e.k f.k) (hv : VsI w (ys ++ [f.cn]) Y) : MgI w tot A (cutA B cb 1) ca (cb - 1) (e :: es) fs (ys ++ [f.cn]) Y where
  ea := h.ea
  eb := by have := h.eb.cut (c := cb) (n := 1) h.lb; exact this
  la := h.la
  lb := by have := h.lb; rw [List.length_cons] at this; omega
  vs := hv
  mg := by
    have h1 := h.mg
    rw [List.map_cons, List.map_cons, mergeC, if_neg (show ¬ cmpK e.ent.k f.ent.k < 0 by show ¬ cmpK e.k f.k < 0; omega), if_pos (show 0 < cmpK e.ent.k f.ent.k from hc)] at h1
    rw [List.map_append, List.append_assoc, List.map_cons]
    exact h1
  ln := by have := h.ln; rw [List.length_append]; simp at this ⊢; omega
theorem MgI.eq {w : World} {tot : List Chg} {A B : Option Addr} {ca cb : Nat} {e f : En} {es fs : List En} {ys zs : List Cn} {X Y : World} (h : MgI w tot A B ca cb (e :: es) (f :: fs) ys X) (hc : cmpK e.k f.k = 0) (hz : zs.map Cn.chg = if e.v = f.v then [] else [⟨f.k, f.v, false⟩]) (hv : VsI w (ys ++ zs) Y) : MgI w tot (cutA A ca 1) (cutA B cb 1) (ca - 1) (cb - 1) es fs (ys ++ zs) Y where
  ea := by have := h.ea.cut (c := ca) (n := 1) h.la; exact this
  eb := by have := h.eb.cut (c := cb) (n := 1) h.lb; exact this
  la := by have := h.la; rw [List.length_cons] at this; omega
  lb := by have := h.lb; rw [List.length_cons] at this; omega
  vs := hv
  mg := by
    have h1 := h.mg
    rw [List.map_cons, List.map_cons, mergeC, if_neg (show ¬ cmpK e.ent.k f.ent.k < 0 by show ¬ cmpK e.k f.k < 0; omega), if_neg (show ¬ 0 < cmpK e.ent.k f.ent.k by show ¬ 0 < cmpK e.k f.k; omega)] at h1
    rw [List.map_append, List.append_assoc, hz]
    exact h1
  ln := by
    have h1 := congrArg List.length hz
    rw [List.length_map] at h1
    have h2 : zs.length ≤ 1 := by rw [h1]; split <;> simp
    have := h.ln; rw [List.length_append]; simp at this ⊢; omega
def ordV : Value := .func (.func 33) #[] #[]
def visV (w : World) : Value := .func (.func 36) #[] #[.pointer (some ⟨w.heap.size, 0, none⟩)]
set_option maxHeartbeats 16000000 in
set_option maxRecDepth 100000 in
theorem merge_c (w X : World) (A B : Option Addr) (ca cb : Nat) (es fs : List En) (hV : VsI w [] X) (hA : EA w A es) (hB : EA w B fs) (hca : es.length ≤ ca) (hcb : fs.length ≤ cb) (hl : es.length ≤ 100) (hm : fs.length ≤ 100) :
    Calls Tryd.prog 35 #[.slice A es.length ca, .slice B fs.length cb, ordV, visV w] X fun e Y => e = .returned (.tuple #[]) ∧ ∃ ys, VsI w ys Y ∧ ys.map Cn.chg = mergeC (es.map En.ent) (fs.map En.ent) := by
  obtain ⟨tot, ht⟩ : ∃ tot, tot = mergeC (es.map En.ent) (fs.map En.ent) := ⟨_, rfl⟩
  rw [← ht]
  have HI0 : Hid (MgI w tot A B ca cb es fs [] X) := ⟨hA, hB, hca, hcb, hV, by rw [ht]; rfl, by simp; omega⟩
  have hna : es.length ≤ 100 := hl
  have hnb : fs.length ≤ 100 := hm
  unfold ordV visV
  clear hV hA hB hca hcb hl hm ht
  go_enter Tryd.func35, Tryd.ntmps35
  go_wp2_with fail
  go_loopg [0, 1] (es.length + fs.length) (fun gg av bv' wr => ∃ (A' B' : Option Addr) (ca' cb' : Nat) (es' fs' : List En) (ys : List Cn), av = .slice A' es'.length ca' ∧ bv' = .slice B' fs'.length cb' ∧ es'.length + fs'.length = gg ∧ es'.length ≤ 100 ∧ fs'.length ≤ 100 ∧ Hid (MgI w tot A' B' ca' cb' es' fs' ys wr))
  case atStart => exact ⟨A, B, ca, cb, es, fs, [], rfl, rfl, rfl, hna, hnb, HI0.out⟩
  case round =>
    obtain ⟨A', B', ca', cb', es', fs', ys, rfl, rfl, rfl, hn1, hn2, HI⟩ := hrel
    by_cases h1 : es'.length = 0
    · have HE : Hid (es' = [] ∨ fs' = []) := .inl (List.length_eq_zero_iff.1 h1)
      have d1 : decide (0 < es'.length) = false := decide_eq_false (by omega)
      clear h1
      go_wp2_with fail
      clear d1
      go_loopg [57] es'.length (fun gg iv wr2 => ∃ (i : Nat) (ys2 : List Cn), iv = .int .i64 (i : Int) ∧ i ≤ es'.length ∧ es'.length - i = gg ∧ Hid (VsI w ys2 wr2 ∧ ys2.map Cn.chg ++ mergeC ((es'.drop i).map En.ent) (fs'.map En.ent) = tot ∧ ys2.length + (es'.length - i) + fs'.length ≤ 300))
      case atStart => exact ⟨0, ys, rfl, by omega, by omega, HI.out.vs, HI.out.mg, HI.out.ln⟩
      case round =>
        obtain ⟨i, ys2, rfl, hi, rfl, HR⟩ := hrel
        by_cases hlt : i < es'.length
        · have hd : decide (i < es'.length) = true := decide_eq_true hlt
          obtain ⟨e, he⟩ : ∃ e, es'[i]? = some e := ⟨_, List.getElem?_eq_getElem hlt⟩
          obtain ⟨hok, g, o, hA, hr⟩ := HI.out.ea i e he
          have HAA := Lib.hid hA
          have HVI := Lib.hid (visit_del w wr ys2 g (o + i * 33) e HR.out.1 hok hr (by have := HR.out.2.2; omega))
          have HNX : Hid ((ys2 ++ [delC e]).map Cn.chg ++ mergeC ((es'.drop (i + 1)).map En.ent) (fs'.map En.ent) = tot ∧ (ys2 ++ [delC e]).length + (es'.length - (i + 1)) + fs'.length ≤ 300) := by
            obtain ⟨q1, q2, q3⟩ := HR.out
            have hf0 : fs' = [] := by
              rcases HE.out with h | h
              · rw [h] at hlt; simp at hlt
              · exact h
            obtain ⟨h1, rfl⟩ := List.getElem?_eq_some_iff.1 he
            rw [List.drop_eq_getElem_cons h1, List.map_cons, hf0, List.map_nil, mergeC] at q2
            refine ⟨?_, by rw [List.length_append, List.length_singleton]; omega⟩
            rw [List.map_append, List.append_assoc, hf0, List.map_nil]
            exact q2
          have p0 : (0 : Int) ≤ (i : Int) := by omega
          have p1 : (i : Int) < (es'.length : Int) := by omega
          rw [HAA.out]
          clear he hok hr HR hA
          go_wp2_with fail
          refine HVI.out.mono ?_
          rintro _ w5 ⟨rfl, hv5⟩
          have HV5 := Lib.hid hv5
          clear hv5 HVI
          go_wp2_with fail
          rw [← HAA.out]
          go_roundg (es'.length - (i + 1))
          case measure => omega
          case rel => exact ⟨i + 1, ys2 ++ [delC e], by go_num, by omega, rfl, HV5.out, HNX.out⟩
        · obtain rfl : i = es'.length := by omega
          have hd : decide (es'.length < es'.length) = false := decide_eq_false (by omega)
          have HF2 : Hid (VsI w ys2 wr ∧ ys2.map Cn.chg ++ mergeC [] (fs'.map En.ent) = tot ∧ ys2.length + fs'.length ≤ 300) := by
            obtain ⟨q1, q2, q3⟩ := HR.out
            rw [List.drop_length, List.map_nil] at q2
            exact ⟨q1, q2, by omega⟩
          clear HR hlt
          go_wp2_with fail
          clear hd
          go_loopg [68] fs'.length (fun gg iv wr3 => ∃ (i : Nat) (ys3 : List Cn), iv = .int .i64 (i : Int) ∧ i ≤ fs'.length ∧ fs'.length - i = gg ∧ Hid (VsI w ys3 wr3 ∧ ys3.map Cn.chg ++ mergeC [] ((fs'.drop i).map En.ent) = tot ∧ ys3.length + (fs'.length - i) ≤ 300))
          case atStart => exact ⟨0, ys2, rfl, by omega, by omega, by obtain ⟨q1, q2, q3⟩ := HF2.out; exact ⟨q1, q2, q3⟩⟩
          case round =>
            obtain ⟨i, ys3, rfl, hi, rfl, HR⟩ := hrel
            by_cases hlt : i < fs'.length
            · have hd : decide (i < fs'.length) = true := decide_eq_true hlt
              obtain ⟨f, hf⟩ : ∃ f, fs'[i]? = some f := ⟨_, List.getElem?_eq_getElem hlt⟩
              obtain ⟨hok, g, o, hA, hr⟩ := HI.out.eb i f hf
              have HAA := Lib.hid hA
              have HVI := Lib.hid (visit_new w wr ys3 g (o + i * 33) f HR.out.1 hok hr (by have := HR.out.2.2; omega))
              have HNX : Hid ((ys3 ++ [f.cn]).map Cn.chg ++ mergeC [] ((fs'.drop (i + 1)).map En.ent) = tot ∧ (ys3 ++ [f.cn]).length + (fs'.length - (i + 1)) ≤ 300) := by
                obtain ⟨q1, q2, q3⟩ := HR.out
                obtain ⟨h1, rfl⟩ := List.getElem?_eq_some_iff.1 hf
                rw [List.drop_eq_getElem_cons h1, List.map_cons, mergeC] at q2
                refine ⟨?_, by rw [List.length_append, List.length_singleton]; omega⟩
                rw [List.map_append, List.append_assoc]
                exact q2
              have p0 : (0 : Int) ≤ (i : Int) := by omega
              have p1 : (i : Int) < (fs'.length : Int) := by omega
              rw [HAA.out]
              clear hf hok hr HR hA
              go_wp2_with fail
              refine HVI.out.mono ?_
              rintro _ w5 ⟨rfl, hv5⟩
              have HV5 := Lib.hid hv5
              clear hv5 HVI
              go_wp2_with fail
              rw [← HAA.out]
              go_roundg (fs'.length - (i + 1))
              case measure => omega
              case rel => exact ⟨i + 1, ys3 ++ [f.cn], by go_num, by omega, rfl, HV5.out, HNX.out⟩
            · obtain rfl : i = fs'.length := by omega
              have hd : decide (fs'.length < fs'.length) = false := decide_eq_false (by omega)
              have HF3 : Hid (VsI w ys3 wr ∧ ys3.map Cn.chg = tot) := by
                obtain ⟨q1, q2, _⟩ := HR.out
                rw [List.drop_length, List.map_nil, mergeC, List.append_nil] at q2
                exact ⟨q1, q2⟩
              clear HR hlt
              go_wp2_with fail
              refine bodyPost_end (results_none rfl _ _ _) rfl ⟨rfl, ys3, HF3.out⟩
    by_cases h2 : fs'.length = 0
    · have HE : Hid (es' = [] ∨ fs' = []) := .inr (List.length_eq_zero_iff.1 h2)
      have d1 : decide (0 < es'.length) = true := decide_eq_true (by omega)
      have d2 : decide (0 < fs'.length) = false := decide_eq_false (by omega)
      clear h1 h2
      go_wp2_with fail
      clear d1 d2
      go_loopg [57] es'.length (fun gg iv wr2 => ∃ (i : Nat) (ys2 : List Cn), iv = .int .i64 (i : Int) ∧ i ≤ es'.length ∧ es'.length - i = gg ∧ Hid (VsI w ys2 wr2 ∧ ys2.map Cn.chg ++ mergeC ((es'.drop i).map En.ent) (fs'.map En.ent) = tot ∧ ys2.length + (es'.length - i) + fs'.length ≤ 300))
      case atStart => exact ⟨0, ys, rfl, by omega, by omega, HI.out.vs, HI.out.mg, HI.out.ln⟩
      case round =>
        obtain ⟨i, ys2, rfl, hi, rfl, HR⟩ := hrel
        by_cases hlt : i < es'.length
        · have hd : decide (i < es'.length) = true := decide_eq_true hlt
          obtain ⟨e, he⟩ : ∃ e, es'[i]? = some e := ⟨_, List.getElem?_eq_getElem hlt⟩
          obtain ⟨hok, g, o, hA, hr⟩ := HI.out.ea i e he
          have HAA := Lib.hid hA
          have HVI := Lib.hid (visit_del w wr ys2 g (o + i * 33) e HR.out.1 hok hr (by have := HR.out.2.2; omega))
          have HNX : Hid ((ys2 ++ [delC e]).map Cn.chg ++ mergeC ((es'.drop (i + 1)).map En.ent) (fs'.map En.ent) = tot ∧ (ys2 ++ [delC e]).length + (es'.length - (i + 1)) + fs'.length ≤ 300) := by
            obtain ⟨q1, q2, q3⟩ := HR.out
            have hf0 : fs' = [] := by
              rcases HE.out with h | h
              · rw [h] at hlt; simp at hlt
              · exact h
            obtain ⟨h1, rfl⟩ := List.getElem?_eq_some_iff.1 he
            rw [List.drop_eq_getElem_cons h1, List.map_cons, hf0, List.map_nil, mergeC] at q2
            refine ⟨?_, by rw [List.length_append, List.length_singleton]; omega⟩
            rw [List.map_append, List.append_assoc, hf0, List.map_nil]
            exact q2
          have p0 : (0 : Int) ≤ (i : Int) := by omega
          have p1 : (i : Int) < (es'.length : Int) := by omega
          rw [HAA.out]
          clear he hok hr HR hA
          go_wp2_with fail
          refine HVI.out.mono ?_
          rintro _ w5 ⟨rfl, hv5⟩
          have HV5 := Lib.hid hv5
          clear hv5 HVI
          go_wp2_with fail
          rw [← HAA.out]
          go_roundg (es'.length - (i + 1))
          case measure => omega
          case rel => exact ⟨i + 1, ys2 ++ [delC e], by go_num, by omega, rfl, HV5.out, HNX.out⟩
        · obtain rfl : i = es'.length := by omega
          have hd : decide (es'.length < es'.length) = false := decide_eq_false (by omega)
          have HF2 : Hid (VsI w ys2 wr ∧ ys2.map Cn.chg ++ mergeC [] (fs'.map En.ent) = tot ∧ ys2.length + fs'.length ≤ 300) := by
            obtain ⟨q1, q2, q3⟩ := HR.out
            rw [List.drop_length, List.map_nil] at q2
            exact ⟨q1, q2, by omega⟩
          clear HR hlt
          go_wp2_with fail
          clear hd
          go_loopg [68] fs'.length (fun gg iv wr3 => ∃ (i : Nat) (ys3 : List Cn), iv = .int .i64 (i : Int) ∧ i ≤ fs'.length ∧ fs'.length - i = gg ∧ Hid (VsI w ys3 wr3 ∧ ys3.map Cn.chg ++ mergeC [] ((fs'.drop i).map En.ent) = tot ∧ ys3.length + (fs'.length - i) ≤ 300))
          case atStart => exact ⟨0, ys2, rfl, by omega, by omega, by obtain ⟨q1, q2, q3⟩ := HF2.out; exact ⟨q1, q2, q3⟩⟩
          case round =>
            obtain ⟨i, ys3, rfl, hi, rfl, HR⟩ := hrel
            by_cases hlt : i < fs'.length
            · have hd : decide (i < fs'.length) = true := decide_eq_true hlt
              obtain ⟨f, hf⟩ : ∃ f, fs'[i]? = some f := ⟨_, List.getElem?_eq_getElem hlt⟩
              obtain ⟨hok, g, o, hA, hr⟩ := HI.out.eb i f hf
              have HAA := Lib.hid hA
              have HVI := Lib.hid (visit_new w wr ys3 g (o + i * 33) f HR.out.1 hok hr (by have := HR.out.2.2; omega))
              have HNX : Hid ((ys3 ++ [f.cn]).map Cn.chg ++ mergeC [] ((fs'.drop (i + 1)).map En.ent) = tot ∧ (ys3 ++ [f.cn]).length + (fs'.length - (i + 1)) ≤ 300) := by
                obtain ⟨q1, q2, q3⟩ := HR.out
                obtain ⟨h1, rfl⟩ := List.getElem?_eq_some_iff.1 hf
                rw [List.drop_eq_getElem_cons h1, List.map_cons, mergeC] at q2
                refine ⟨?_, by rw [List.length_append, List.length_singleton]; omega⟩
                rw [List.map_append, List.append_assoc]
                exact q2
              have p0 : (0 : Int) ≤ (i : Int) := by omega
              have p1 : (i : Int) < (fs'.length : Int) := by omega
              rw [HAA.out]
              clear hf hok hr HR hA
              go_wp2_with fail
              refine HVI.out.mono ?_
              rintro _ w5 ⟨rfl, hv5⟩
              have HV5 := Lib.hid hv5
              clear hv5 HVI
              go_wp2_with fail
              rw [← HAA.out]
              go_roundg (fs'.length - (i + 1))
              case measure => omega
              case rel => exact ⟨i + 1, ys3 ++ [f.cn], by go_num, by omega, rfl, HV5.out, HNX.out⟩
            · obtain rfl : i = fs'.length := by omega
              have hd : decide (fs'.length < fs'.length) = false := decide_eq_false (by omega)
              have HF3 : Hid (VsI w ys3 wr ∧ ys3.map Cn.chg = tot) := by
                obtain ⟨q1, q2, _⟩ := HR.out
                rw [List.drop_length, List.map_nil, mergeC, List.append_nil] at q2
                exact ⟨q1, q2⟩
              clear HR hlt
              go_wp2_with fail
              refine bodyPost_end (results_none rfl _ _ _) rfl ⟨rfl, ys3, HF3.out⟩
    match es', fs', h1, h2, hn1, hn2, HI with
    | e :: es2, f :: fs2, _, _, hn1, hn2, HI =>
      obtain ⟨ho1, g1, o1, hA1, hr1⟩ := HI.out.ea 0 e rfl
      obtain ⟨ho2, g2, o2, hA2, hr2⟩ := HI.out.eb 0 f rfl
      subst hA1 hA2
      rw [Nat.zero_mul, Nat.add_zero] at hr1 hr2
      have HO1 := Lib.hid ho1
      have HO2 := Lib.hid ho2
      have HR1 := Lib.hid hr1
      have HR2 := Lib.hid hr2
      have hn3 : es2.length ≤ 99 := by rw [List.length_cons] at hn1; omega
      have hn4 : fs2.length ≤ 99 := by rw [List.length_cons] at hn2; omega
      have HYL : Hid (ys.length ≤ 1000) := by show _ ≤ _; have := HI.out.ln; omega
      rw [List.length_cons, List.length_cons]
      clear ho1 ho2 hr1 hr2 hn1 hn2
      rcases cmpK_range e.k f.k with hc | hc | hc
      · have HC : Hid (cmpK e.k f.k < 0) := by show _ < _; omega
        have d1 : decide (0 < es2.length + 1) = true := decide_eq_true (by omega)
        have d2 : decide (0 < fs2.length + 1) = true := decide_eq_true (by omega)
        have le1 : ∀ q : Later wr, ldA 47 q.w (.pointer (some ⟨g1, o1, none⟩)) = .ok (.value (.agg (enC e).toArray)) q.w := fun q => range_ent (range_below HR1.out (HI.out.vs.1.trans (q.h.mono HI.out.vs.1.size))) HO1.out.key
        have le2 : ∀ q : Later wr, ldA 47 q.w (.pointer (some ⟨g2, o2, none⟩)) = .ok (.value (.agg (enC f).toArray)) q.w := fun q => range_ent (range_below HR2.out (HI.out.vs.1.trans (q.h.mono HI.out.vs.1.size))) HO2.out.key
        have HORD : Hid (∀ q : Later wr, Calls Tryd.prog 33 #[.agg (enC e).toArray, .agg (enC f).toArray] q.w fun x w'' => x = .returned (.int .i64 (-1)) ∧ ∃ y : Later wr, w'' = y.w) := fun q => by
          have h := order_c e f HO1.out.key HO2.out.key q.w
          rw [hc] at h
          exact Later.call h
        have p1 : (0 : Int) < (es2.length : Int) + 1 := by omega
        have p2 : (0 : Int) < (fs2.length : Int) + 1 := by omega
        go_wp2_with fail
        refine wp_region_later (by kernel_rfl) (by kernel_rfl) ?_
        repeat (go_big_quiet_step ((go_at_call 33; exact HORD.out _)))
        refine wpQuiet_nil ?_
        rintro _ ⟨x, rfl⟩
        clear le1 le2 HORD
        obtain ⟨Y, hY⟩ : ∃ Y, Y = x.w := ⟨_, rfl⟩
        have hvY : VsI w ys Y := HI.out.vs.below (by rw [hY]; exact x.h)
        rw [← hY]
        have HVY := Lib.hid hvY
        clear hvY hY
        clear hc
        have HVI := Lib.hid (visit_del w Y ys g1 o1 e HVY.out HO1.out HR1.out HYL.out)
        go_wp2_with fail
        refine HVI.out.mono ?_
        rintro _ w5 ⟨rfl, hv5⟩
        have HV5 := Lib.hid hv5
        clear hv5 HVI
        have cut1 := fun v => cutOne (A := some ⟨g1, o1, none⟩) (n := es2.length) (c := ca') v
        go_wp2_with fail
        go_roundg (es2.length + (fs2.length + 1))
        case measure => (simp only [List.length_cons]; omega)
        case rel => exact ⟨cutA (some ⟨g1, o1, none⟩) ca' 1, some ⟨g2, o2, none⟩, ca' - 1, cb', es2, f :: fs2, ys ++ [delC e], rfl, rfl, rfl, by omega, by rw [List.length_cons]; omega, HI.out.lt HC.out HV5.out⟩
      · have HC : Hid (cmpK e.k f.k = 0) := hc
        by_cases hv : e.v = f.v
        · have HZ : Hid (([] : List Cn).map Cn.chg = if e.v = f.v then [] else [⟨f.k, f.v, false⟩]) := by show _ = _; rw [if_pos hv]; rfl
          have d1 : decide (0 < es2.length + 1) = true := decide_eq_true (by omega)
          have d2 : decide (0 < fs2.length + 1) = true := decide_eq_true (by omega)
          have le1 : ∀ q : Later wr, ldA 47 q.w (.pointer (some ⟨g1, o1, none⟩)) = .ok (.value (.agg (enC e).toArray)) q.w := fun q => range_ent (range_below HR1.out (HI.out.vs.1.trans (q.h.mono HI.out.vs.1.size))) HO1.out.key
          have le2 : ∀ q : Later wr, ldA 47 q.w (.pointer (some ⟨g2, o2, none⟩)) = .ok (.value (.agg (enC f).toArray)) q.w := fun q => range_ent (range_below HR2.out (HI.out.vs.1.trans (q.h.mono HI.out.vs.1.size))) HO2.out.key
          have HORD : Hid (∀ q : Later wr, Calls Tryd.prog 33 #[.agg (enC e).toArray, .agg (enC f).toArray] q.w fun x w'' => x = .returned (.int .i64 (0)) ∧ ∃ y : Later wr, w'' = y.w) := fun q => by
            have h := order_c e f HO1.out.key HO2.out.key q.w
            rw [hc] at h
            exact Later.call h
          have p1 : (0 : Int) < (es2.length : Int) + 1 := by omega
          have p2 : (0 : Int) < (fs2.length : Int) + 1 := by omega
          go_wp2_with fail
          refine wp_region_later (by kernel_rfl) (by kernel_rfl) ?_
          repeat (go_big_quiet_step ((go_at_call 33; exact HORD.out _)))
          refine wpQuiet_nil ?_
          rintro _ ⟨x, rfl⟩
          clear le1 le2 HORD
          obtain ⟨Y, hY⟩ : ∃ Y, Y = x.w := ⟨_, rfl⟩
          have hvY : VsI w ys Y := HI.out.vs.below (by rw [hY]; exact x.h)
          rw [← hY]
          have HVY := Lib.hid hvY
          clear hvY hY
          clear hc
          have HVI := Lib.hid (visit_same w Y.drew ys g1 o1 g2 o2 e f (HVY.out.below (Below.refl _ _).drew) HO1.out HR1.out HO2.out HR2.out hv)
          clear hv
          go_wp2_with fail
          refine wp_region_held_drew (S := fun w' => True) (by kernel_rfl) (trivial) (fun hHeld => ?_)
          have hb0 : True := trivial
          refine wpAnyH_take (i := 0) (oi := { dst := some 27, op := .move (.tmp 3), type := _, pos := _, after := _, guard := _ }) (v := ?_) rfl (by kernel_rfl) (by kernel_rfl) (by kernel_rfl) (fun _ _ _ h => h) (Or.inl ⟨by rfl, ?_⟩) (by assumption) ?_
          rotate_left 1
          · intro v hSv
            clear hSv
            go_simp
            try with_reducible rfl
          try simp only [Act.put, List.setIfInBounds_toArray, List.set_cons_zero, List.set_cons_succ]
          refine wpAnyH_take (i := 1) (oi := { dst := some 28, op := .move (.tmp 0), type := _, pos := _, after := _, guard := _ }) (v := ?_) rfl (by kernel_rfl) (by kernel_rfl) (by kernel_rfl) (fun _ _ _ h => h) (Or.inl ⟨by rfl, ?_⟩) (by assumption) ?_
          rotate_left 1
          · intro v hSv
            clear hSv
            go_simp
            try with_reducible rfl
          try simp only [Act.put, List.setIfInBounds_toArray, List.set_cons_zero, List.set_cons_succ]
          refine wpAnyH_take (i := 2) (oi := { dst := some 29, op := .indexAddr _ (.tmp 28) (.const (.int .i64 0)), type := _, pos := _, after := _, guard := _ }) (v := ?_) rfl (by kernel_rfl) (by kernel_rfl) (by kernel_rfl) (fun _ _ _ h => h) (Or.inl ⟨by rfl, ?_⟩) (by assumption) ?_
          rotate_left 1
          · intro v hSv
            clear hSv
            go_simp
            try with_reducible rfl
          try simp only [Act.put, List.setIfInBounds_toArray, List.set_cons_zero, List.set_cons_succ]
          refine wpAnyH_take (i := 3) (oi := { dst := some 30, op := .move (.tmp 1), type := _, pos := _, after := _, guard := _ }) (v := ?_) rfl (by kernel_rfl) (by kernel_rfl) (by kernel_rfl) (fun _ _ _ h => h) (Or.inl ⟨by rfl, ?_⟩) (by assumption) ?_
          rotate_left 1
          · intro v hSv
            clear hSv
            go_simp
            try with_reducible rfl
          try simp only [Act.put, List.setIfInBounds_toArray, List.set_cons_zero, List.set_cons_succ]
          refine wpAnyH_take (i := 4) (oi := { dst := some 31, op := .indexAddr _ (.tmp 30) (.const (.int .i64 0)), type := _, pos := _, after := _, guard := _ }) (v := ?_) rfl (by kernel_rfl) (by kernel_rfl) (by kernel_rfl) (fun _ _ _ h => h) (Or.inl ⟨by rfl, ?_⟩) (by assumption) ?_
          rotate_left 1
          · intro v hSv
            clear hSv
            go_simp
            try with_reducible rfl
          try simp only [Act.put, List.setIfInBounds_toArray, List.set_cons_zero, List.set_cons_succ]
          refine wpAnyH_ready (rs := [5]) (by kernel_rfl) (by simp) ?_
          refine AllReadyH.cons (o := { dst := some 32, op := .call _, type := _, pos := _, after := _, guard := _ }) rfl (fun K hK => ?_) AllReadyH.nil
          go_simp
          refine (HVI.out).mono ?_
          rintro e y1 ⟨rfl, hb⟩
          have hb1 : True := trivial
          have HV5 := Lib.hid hb
          clear hb
          go_wp2_with fail
          refine hK.out _ _ (hb1) (fun hHeld => ?_)
          clear hK K
          try simp only [Act.put, List.setIfInBounds_toArray, List.set_cons_zero, List.set_cons_succ]
          refine wpAnyH_done (by kernel_rfl) ?_ _
          clear HVI hb0 hb1
          have cut1 := fun v => cutOne (A := some ⟨g1, o1, none⟩) (n := es2.length) (c := ca') v
          have cut2 := fun v => cutOne (A := some ⟨g2, o2, none⟩) (n := fs2.length) (c := cb') v
          go_wp2_with fail
          refine wp_region_later (by kernel_rfl) (by kernel_rfl) ?_
          repeat (go_big_quiet_step (fail))
          refine wpQuiet_nil ?_
          rintro _ ⟨x2, rfl⟩
          have hv6 : VsI w (ys ++ []) x2.w := by rw [List.append_nil]; exact HV5.out.below x2.h
          have HV6 := Lib.hid hv6
          clear hv6
          go_wp2_with fail
          go_roundg (es2.length + fs2.length)
          case measure => (simp only [List.length_cons]; omega)
          case rel => exact ⟨cutA (some ⟨g1, o1, none⟩) ca' 1, cutA (some ⟨g2, o2, none⟩) cb' 1, ca' - 1, cb' - 1, es2, fs2, ys ++ [], rfl, rfl, rfl, by omega, by omega, HI.out.eq HC.out HZ.out HV6.out⟩
        · have HZ : Hid ([f.cn].map Cn.chg = if e.v = f.v then [] else [⟨f.k, f.v, false⟩]) := by show _ = _; rw [if_neg hv]; rfl
          have d1 : decide (0 < es2.length + 1) = true := decide_eq_true (by omega)
          have d2 : decide (0 < fs2.length + 1) = true := decide_eq_true (by omega)
          have le1 : ∀ q : Later wr, ldA 47 q.w (.pointer (some ⟨g1, o1, none⟩)) = .ok (.value (.agg (enC e).toArray)) q.w := fun q => range_ent (range_below HR1.out (HI.out.vs.1.trans (q.h.mono HI.out.vs.1.size))) HO1.out.key
          have le2 : ∀ q : Later wr, ldA 47 q.w (.pointer (some ⟨g2, o2, none⟩)) = .ok (.value (.agg (enC f).toArray)) q.w := fun q => range_ent (range_below HR2.out (HI.out.vs.1.trans (q.h.mono HI.out.vs.1.size))) HO2.out.key
          have HORD : Hid (∀ q : Later wr, Calls Tryd.prog 33 #[.agg (enC e).toArray, .agg (enC f).toArray] q.w fun x w'' => x = .returned (.int .i64 (0)) ∧ ∃ y : Later wr, w'' = y.w) := fun q => by
            have h := order_c e f HO1.out.key HO2.out.key q.w
            rw [hc] at h
            exact Later.call h
          have p1 : (0 : Int) < (es2.length : Int) + 1 := by omega
          have p2 : (0 : Int) < (fs2.length : Int) + 1 := by omega
          go_wp2_with fail
          refine wp_region_later (by kernel_rfl) (by kernel_rfl) ?_
          repeat (go_big_quiet_step ((go_at_call 33; exact HORD.out _)))
          refine wpQuiet_nil ?_
          rintro _ ⟨x, rfl⟩
          clear le1 le2 HORD
          obtain ⟨Y, hY⟩ : ∃ Y, Y = x.w := ⟨_, rfl⟩
          have hvY : VsI w ys Y := HI.out.vs.below (by rw [hY]; exact x.h)
          rw [← hY]
          have HVY := Lib.hid hvY
          clear hvY hY
          clear hc
          have HVI := Lib.hid (visit_other w Y.drew ys g1 o1 g2 o2 e f (HVY.out.below (Below.refl _ _).drew) HO1.out HR1.out HO2.out HR2.out HYL.out hv)
          clear hv
          go_wp2_with fail
          refine wp_region_held_drew (S := fun w' => True) (by kernel_rfl) (trivial) (fun hHeld => ?_)
          have hb0 : True := trivial
          refine wpAnyH_take (i := 0) (oi := { dst := some 27, op := .move (.tmp 3), type := _, pos := _, after := _, guard := _ }) (v := ?_) rfl (by kernel_rfl) (by kernel_rfl) (by kernel_rfl) (fun _ _ _ h => h) (Or.inl ⟨by rfl, ?_⟩) (by assumption) ?_
          rotate_left 1
          · intro v hSv
            clear hSv
            go_simp
            try with_reducible rfl
          try simp only [Act.put, List.setIfInBounds_toArray, List.set_cons_zero, List.set_cons_succ]
          refine wpAnyH_take (i := 1) (oi := { dst := some 28, op := .move (.tmp 0), type := _, pos := _, after := _, guard := _ }) (v := ?_) rfl (by kernel_rfl) (by kernel_rfl) (by kernel_rfl) (fun _ _ _ h => h) (Or.inl ⟨by rfl, ?_⟩) (by assumption) ?_
          rotate_left 1
          · intro v hSv
            clear hSv
            go_simp
            try with_reducible rfl
          try simp only [Act.put, List.setIfInBounds_toArray, List.set_cons_zero, List.set_cons_succ]
          refine wpAnyH_take (i := 2) (oi := { dst := some 29, op := .indexAddr _ (.tmp 28) (.const (.int .i64 0)), type := _, pos := _, after := _, guard := _ }) (v := ?_) rfl (by kernel_rfl) (by kernel_rfl) (by kernel_rfl) (fun _ _ _ h => h) (Or.inl ⟨by rfl, ?_⟩) (by assumption) ?_
          rotate_left 1
          · intro v hSv
            clear hSv
            go_simp
            try with_reducible rfl
          try simp only [Act.put, List.setIfInBounds_toArray, List.set_cons_zero, List.set_cons_succ]
          refine wpAnyH_take (i := 3) (oi := { dst := some 30, op := .move (.tmp 1), type := _, pos := _, after := _, guard := _ }) (v := ?_) rfl (by kernel_rfl) (by kernel_rfl) (by kernel_rfl) (fun _ _ _ h => h) (Or.inl ⟨by rfl, ?_⟩) (by assumption) ?_
          rotate_left 1
          · intro v hSv
            clear hSv
            go_simp
            try with_reducible rfl
          try simp only [Act.put, List.setIfInBounds_toArray, List.set_cons_zero, List.set_cons_succ]
          refine wpAnyH_take (i := 4) (oi := { dst := some 31, op := .indexAddr _ (.tmp 30) (.const (.int .i64 0)), type := _, pos := _, after := _, guard := _ }) (v := ?_) rfl (by kernel_rfl) (by kernel_rfl) (by kernel_rfl) (fun _ _ _ h => h) (Or.inl ⟨by rfl, ?_⟩) (by assumption) ?_
          rotate_left 1
          · intro v hSv
            clear hSv
            go_simp
            try with_reducible rfl
          try simp only [Act.put, List.setIfInBounds_toArray, List.set_cons_zero, List.set_cons_succ]
          refine wpAnyH_ready (rs := [5]) (by kernel_rfl) (by simp) ?_
          refine AllReadyH.cons (o := { dst := some 32, op := .call _, type := _, pos := _, after := _, guard := _ }) rfl (fun K hK => ?_) AllReadyH.nil
          go_simp
          refine (HVI.out).mono ?_
          rintro e y1 ⟨rfl, hb⟩
          have hb1 : True := trivial
          have HV5 := Lib.hid hb
          clear hb
          go_wp2_with fail
          refine hK.out _ _ (hb1) (fun hHeld => ?_)
          clear hK K
          try simp only [Act.put, List.setIfInBounds_toArray, List.set_cons_zero, List.set_cons_succ]
          refine wpAnyH_done (by kernel_rfl) ?_ _
          clear HVI hb0 hb1
          have cut1 := fun v => cutOne (A := some ⟨g1, o1, none⟩) (n := es2.length) (c := ca') v
          have cut2 := fun v => cutOne (A := some ⟨g2, o2, none⟩) (n := fs2.length) (c := cb') v
          go_wp2_with fail
          refine wp_region_later (by kernel_rfl) (by kernel_rfl) ?_
          repeat (go_big_quiet_step (fail))
          refine wpQuiet_nil ?_
          rintro _ ⟨x2, rfl⟩
          have hv6 := HV5.out.below x2.h
          have HV6 := Lib.hid hv6
          clear hv6
          go_wp2_with fail
          go_roundg (es2.length + fs2.length)
          case measure => (simp only [List.length_cons]; omega)
          case rel => exact ⟨cutA (some ⟨g1, o1, none⟩) ca' 1, cutA (some ⟨g2, o2, none⟩) cb' 1, ca' - 1, cb' - 1, es2, fs2, ys ++ [f.cn], rfl, rfl, rfl, by omega, by omega, HI.out.eq HC.out HZ.out HV6.out⟩
      · have HC : Hid (0 < cmpK e.k f.k) := by show _ < _; omega
        have d1 : decide (0 < es2.length + 1) = true := decide_eq_true (by omega)
        have d2 : decide (0 < fs2.length + 1) = true := decide_eq_true (by omega)
        have le1 : ∀ q : Later wr, ldA 47 q.w (.pointer (some ⟨g1, o1, none⟩)) = .ok (.value (.agg (enC e).toArray)) q.w := fun q => range_ent (range_below HR1.out (HI.out.vs.1.trans (q.h.mono HI.out.vs.1.size))) HO1.out.key
        have le2 : ∀ q : Later wr, ldA 47 q.w (.pointer (some ⟨g2, o2, none⟩)) = .ok (.value (.agg (enC f).toArray)) q.w := fun q => range_ent (range_below HR2.out (HI.out.vs.1.trans (q.h.mono HI.out.vs.1.size))) HO2.out.key
        have HORD : Hid (∀ q : Later wr, Calls Tryd.prog 33 #[.agg (enC e).toArray, .agg (enC f).toArray] q.w fun x w'' => x = .returned (.int .i64 (1)) ∧ ∃ y : Later wr, w'' = y.w) := fun q => by
          have h := order_c e f HO1.out.key HO2.out.key q.w
          rw [hc] at h
          exact Later.call h
        have p1 : (0 : Int) < (es2.length : Int) + 1 := by omega
        have p2 : (0 : Int) < (fs2.length : Int) + 1 := by omega
        go_wp2_with fail
        refine wp_region_later (by kernel_rfl) (by kernel_rfl) ?_
        repeat (go_big_quiet_step ((go_at_call 33; exact HORD.out _)))
        refine wpQuiet_nil ?_
        rintro _ ⟨x, rfl⟩
        clear le1 le2 HORD
        obtain ⟨Y, hY⟩ : ∃ Y, Y = x.w := ⟨_, rfl⟩
        have hvY : VsI w ys Y := HI.out.vs.below (by rw [hY]; exact x.h)
        rw [← hY]
        have HVY := Lib.hid hvY
        clear hvY hY
        clear hc
        have HVI := Lib.hid (visit_new w Y ys g2 o2 f HVY.out HO2.out HR2.out HYL.out)
        go_wp2_with fail
        refine HVI.out.mono ?_
        rintro _ w5 ⟨rfl, hv5⟩
        have HV5 := Lib.hid hv5
        clear hv5 HVI
        have cut2 := fun v => cutOne (A := some ⟨g2, o2, none⟩) (n := fs2.length) (c := cb') v
        go_wp2_with fail
        go_roundg (es2.length + 1 + fs2.length)
        case measure => (simp only [List.length_cons]; omega)
        case rel => exact ⟨some ⟨g1, o1, none⟩, cutA (some ⟨g2, o2, none⟩) cb' 1, ca', cb' - 1, e :: es2, fs2, ys ++ [f.cn], rfl, rfl, by rw [List.length_cons], by rw [List.length_cons]; omega, by omega, HI.out.gt HC.out HV5.out⟩
end Go.Proofs.YtaajnjddfcdeaaaDoor

/- The program's differences and Diff. -/
namespace Go.Proofs.YtaajnjddfcdeaaaDoor
open Go.RowKit Go.Shelf

theorem difC_val {a b : List Ent} {c : Chg} (h : difC a b c.k = [c]) : c.v = [] ∨ ∃ e ∈ b, c.v = e.v := by
  unfold difC at h
  cases hb : valK b c.k with
  | none =>
    rw [hb] at h
    have h1 : [(⟨c.k, [], true⟩ : Chg)] = [c] := h
    have h2 := congrArg Chg.v (List.cons.inj h1).1
    exact .inl h2.symm
  | some y =>
    rw [hb] at h
    have hy : ∃ e ∈ b, y = e.v := by
      unfold valK at hb
      obtain ⟨e, he, hv⟩ := Option.map_eq_some_iff.1 hb
      exact ⟨e, List.mem_of_find?_eq_some he, hv.symm⟩
    obtain ⟨e, he, hv⟩ := hy
    refine .inr ⟨e, he, ?_⟩
    cases hq : valK a c.k with
    | none =>
      rw [hq] at h
      have h1 : [(⟨c.k, y, false⟩ : Chg)] = [c] := h
      have h2 := congrArg Chg.v (List.cons.inj h1).1
      rw [← h2]; exact hv
    | some x =>
      rw [hq] at h
      have h1 : (if x = y then [] else [(⟨c.k, y, false⟩ : Chg)]) = [c] := h
      split at h1
      · cases h1
      · have h2 := congrArg Chg.v (List.cons.inj h1).1
        rw [← h2]; exact hv
theorem merge_vals {a b : List Ent} (ha : Asc a) (hb : Asc b) (ka : Len32 a) (kb : Len32 b) (hv : ∀ e ∈ b, e.v.length ≤ 1000) : ∀ c ∈ mergeC a b, c.v.length ≤ 1000 := fun c hc => by
  rcases difC_val ((merge_is _ a b (Nat.le_refl _) ha hb ka kb).each c hc).2 with h | ⟨e, he, h⟩
  · rw [h]; exact Nat.zero_le _
  · rw [h]; exact hv e he
theorem vals_map {M : World → Int → Tv → Prop} (nd : NdV M) {w : World} {n : Int} {T : Tv} {l : List Ent} (hM : M w n T) (hI : IsMap l T) : ∀ e ∈ l, e.v.length ≤ 1000 := fun e he => by
  have h1 := get_map hI he
  have hm := ms_fin nd e.k (d := 0) hM
  cases hf : T.fin e.k 0 with
  | nil => rw [hf] at h1; cases h1
  | inner v a b => rw [hf] at h1; cases h1
  | leaf v x =>
    rw [hf] at h1 hm
    have h2 : (if x.k = e.k then some x else none) = some e := h1
    split at h2
    · cases h2; exact (nd.key hm).2
    · cases h2
set_option maxHeartbeats 8000000 in
set_option maxRecDepth 100000 in
theorem differences_c (w : World) (A B : Option Addr) (ca cb : Nat) (es fs : List En) (hA : EA w A es) (hB : EA w B fs) (hca : es.length ≤ ca) (hcb : fs.length ≤ cb) (hl : es.length ≤ 100) (hm : fs.length ≤ 100) (ha : Asc (es.map En.ent)) (hb : Asc (fs.map En.ent)) (hv : ∀ e ∈ fs, e.v.length ≤ 1000) :
    Calls Tryd.prog 19 #[.slice A es.length ca, .slice B fs.length cb] w fun e w' => ∃ (A' : Option Addr) (c : Nat) (ys : List Cn), e = .returned (.slice A' ys.length c) ∧ CA w' A' ys ∧ ys.length ≤ c ∧ ys.map Cn.chg = mergeC (es.map En.ent) (fs.map En.ent) ∧ (∀ y ∈ ys, y.v.length ≤ 1000) ∧ Below w.heap.size w w' := by
  have hke : Len32 (es.map En.ent) := fun x hx => by
    obtain ⟨e, he, rfl⟩ := List.mem_map.1 hx
    exact (hA.mem e he).key
  have hkf : Len32 (fs.map En.ent) := fun x hx => by
    obtain ⟨e, he, rfl⟩ := List.mem_map.1 hx
    exact (hB.mem e he).key
  have HMV := Lib.hid (merge_vals ha hb hke hkf fun e he => by
    obtain ⟨f, hf, rfl⟩ := List.mem_map.1 he
    exact hv f hf)
  obtain ⟨X, hX⟩ : ∃ X, X = w.alloc (.cells #[.slice none 0 0] 30) := ⟨_, rfl⟩
  have hV : VsI w [] X := by
    refine ⟨by rw [hX]; exact (Below.refl _ _).alloc (Nat.le_refl _) _, .slice none 0 0, by rw [hX]; exact heap_alloc_new w _, OwnC.nil _ _ _, fun y hy => by cases hy⟩
  have HMG := Lib.hid (merge_c w X A B ca cb es fs hV hA hB hca hcb hl hm)
  unfold ordV visV at HMG
  have HX := Lib.hid hX
  clear hX hV hA hB hca hcb hl hm ha hb hv hke hkf
  go_enter Tryd.func19, Tryd.ntmps19
  go_wp2_with fail
  rw [← HX.out]
  refine HMG.out.mono ?_
  rintro _ w1 ⟨rfl, ys, hvs, hys⟩
  obtain ⟨hb1, v, h1, h2, h3⟩ := hvs
  obtain ⟨A', c', rfl, hc, hca⟩ := OwnC.ca h2 fun y hy => (h3 y hy).below hb1
  have lc : w1.cell? ⟨w.heap.size, 0, none⟩ = some (.slice A' ys.length c') := by rw [cell_of_cells h1]; rfl
  have HF : Hid (CA w1 A' ys ∧ ys.length ≤ c' ∧ ys.map Cn.chg = mergeC (es.map En.ent) (fs.map En.ent) ∧ (∀ y ∈ ys, y.v.length ≤ 1000) ∧ Below w.heap.size w w1) := ⟨hca, hc, hys, fun y hy => HMV.out y.chg (by rw [← hys]; exact List.mem_map.2 ⟨y, hy, rfl⟩), hb1⟩
  clear hys hb1 h1 h2 h3 hc hca HMG HX
  go_wp2_with fail
  go_ret
  exact ⟨A', c', ys, rfl, HF.out⟩
set_option maxHeartbeats 8000000 in
set_option maxRecDepth 100000 in
theorem diff_c {M : World → Int → Tv → Prop} (nd : NdV M) (w : World) (n : Int) (S T : Tv) (a b : List Ent) (hS : M w n S) (hT : M w n T) (hIS : IsMap a S) (hIT : IsMap b T) (ha : Asc a) (hb : Asc b) (hl : a.length ≤ 100) (hm : b.length ≤ 100) :
    Calls Tryd.prog 8 #[S.val, T.val] w fun x w' => ∃ (A : Option Addr) (c : Nat) (xs : List Cn), x = .returned (.slice A xs.length c) ∧ CA w' A xs ∧ xs.length ≤ c ∧ xs.map Cn.chg = diffC a b ∧ (∀ x ∈ xs, x.v.length ≤ 1000) ∧ Below w.heap.size w w' := by
  obtain ⟨pS, hpS⟩ := val_ptr nd hS
  obtain ⟨pT, hpT⟩ := val_ptr nd hT
  have HE1 := Lib.hid (entries_cl nd w n S a hS hIS ha hl)
  have HE2 : Hid (∀ z, Below w.heap.size w z → Calls Tryd.prog 20 #[.pointer pT] z fun e w' => ∃ (A : Option Addr) (c : Nat) (es : List En), e = .returned (.slice A es.length c) ∧ EA w' A es ∧ es.map En.ent = b ∧ Below z.heap.size z w' ∧ es.length ≤ c) := fun z hz => by
    rw [← hpT]
    exact entries_cl nd z n T b (nd.below hT hz) hIT hb hm
  rw [hpS] at HE1
  have HVB := Lib.hid (vals_map nd hT hIT)
  have HDM := Lib.hid (diff_merge ha hb (fun e he => hIS.sep.len e he) (fun e he => hIT.sep.len e he))
  have HAA := Lib.hid ha
  have HBB := Lib.hid hb
  have HLA := Lib.hid hl
  have HLB := Lib.hid hm
  rw [hpS, hpT]
  clear hS hT hIS hIT ha hb hl hm hpS hpT
  go_enter Tryd.func8, Tryd.ntmps8
  go_wp2_with fail
  refine HE1.out.mono ?_
  rintro _ w1 ⟨A1, c1, es, rfl, hE1, hm1, hB1, hc1⟩
  have HEA := Lib.hid hE1
  have HM1 := Lib.hid hm1
  have HB1 := Lib.hid hB1
  have HC1 := Lib.hid hc1
  clear hE1 hm1 hB1 hc1 HE1
  go_wp2_with fail
  refine (HE2.out w1 HB1.out).mono ?_
  rintro _ w2 ⟨A2, c2, fs, rfl, hE2, hm2, hB2, hc2⟩
  have hl1 := congrArg List.length HM1.out
  have hl2 := congrArg List.length hm2
  rw [List.length_map] at hl1 hl2
  have HDF := Lib.hid (differences_c w2 A1 A2 c1 c2 es fs (HEA.out.below hB2) hE2 HC1.out hc2 (by rw [hl1]; exact HLA.out) (by rw [hl2]; exact HLB.out) (by rw [HM1.out]; exact HAA.out) (by rw [hm2]; exact HBB.out) fun f hf => HVB.out f.ent (by rw [← hm2]; exact List.mem_map.2 ⟨f, hf, rfl⟩))
  have HB2 := Lib.hid (HB1.out.trans (hB2.mono HB1.out.size))
  have HM2 := Lib.hid hm2
  clear hl1 hl2 hE2 hm2 hB2 hc2 HE2 HEA HC1
  go_wp2_with fail
  refine HDF.out.mono ?_
  rintro _ w3 ⟨A3, c3, ys, rfl, h1, h2, h3, h4, hB⟩
  have HF : Hid (CA w3 A3 ys ∧ ys.length ≤ c3 ∧ ys.map Cn.chg = diffC a b ∧ (∀ y ∈ ys, y.v.length ≤ 1000) ∧ Below w.heap.size w w3) := ⟨h1, h2, by rw [h3, HM1.out, HM2.out, HDM.out], h4, HB2.out.trans (hB.mono HB2.out.size)⟩
  clear h1 h2 h3 h4 hB HDF
  go_wp2_with fail
  go_ret
  exact ⟨A3, c3, ys, rfl, HF.out⟩
end Go.Proofs.YtaajnjddfcdeaaaDoor

/- What the program of layer 12 keeps. -/
namespace Go.Proofs.YtaajnjddfcdeaaaDoor
open Go.RowKit Go.Shelf

theorem keys12 {w : World} {A : Option Addr} {xs : List Cn} (h : CA w A xs) : K32 (xs.map Cn.k) := fun k hk => by
  obtain ⟨x, hx, rfl⟩ := List.mem_map.1 hk
  exact (h.ok x hx).key
set_option maxHeartbeats 8000000 in
set_option maxRecDepth 100000 in
/-- A list that is not sorted. -/
theorem apply_no (w : World) (b : Nat) (p : Option Addr) (A : Option Addr) (cA : Nat) (xs : List Cn) (hA : CA w A xs) (hn : xs.length ≤ 50) (h0 : chkK (xs.map Cn.k) ≠ 0) :
    Calls Tryd.prog 16 #[ptr b, .pointer p, .slice A xs.length cA] w fun x w' => x = .returned (.tuple #[.pointer none, .int .i64 (chkK (xs.map Cn.k))]) ∧ Below w.heap.size w w' := by
  have HCK := Lib.hid (check_c A cA xs w hA (by omega))
  obtain ⟨ck, hck⟩ : ∃ ck, ck = chkK (xs.map Cn.k) := ⟨_, rfl⟩
  rw [← hck] at HCK h0 ⊢
  have b0 : (ck != 0) = true := by simpa using h0
  have b1 : decide (ck = 0) = false := decide_eq_false h0
  unfold ptr
  clear hA hn hck
  go_enter Tryd.func16, Tryd.ntmps16
  go_wp2_with fail
  refine HCK.out.mono ?_
  rintro _ w1 ⟨g1, rfl, _, hB1⟩
  have zs := zeroSo
  obtain ⟨SV, hSV⟩ : ∃ v, v = srtC (.slice (some ⟨g1, 0, none⟩) xs.length xs.length) (.slice A xs.length cA) := ⟨_, rfl⟩
  obtain ⟨Y, hY⟩ : ∃ Y, Y = w1.alloc (.cells SV 69) := ⟨_, rfl⟩
  have st0 : stA 69 (w1.alloc (.cells (srtC (.slice none 0 0) (.slice none 0 0)) 69)) (.pointer (some ⟨w1.heap.size, 0, none⟩)) (.agg SV) = .ok .skip Y := by rw [hY, hSV]; exact stA_new w1 _ _ infoSo rfl (srt_one _ _ _ _ _ _)
  have HBY : Hid (Below w.heap.size w Y) := by rw [hY]; exact (hB1.alloc hB1.size _)
  rw [← hSV]
  clear hB1 hSV hY HCK h0
  go_wp2_with fail
  go_ret2
  exact ⟨rfl, HBY.out⟩
set_option maxHeartbeats 8000000 in
set_option maxRecDepth 100000 in
theorem apply_yes (w : World) (b : Nat) (n : Int) (c : Nat) (l : List Ent) (T : Tv) (A : Option Addr) (cA : Nat) (xs : List Cn) (hh : Hs w b n c) (hc : c ≤ 400000) (hv : Vars w) (hM : Mn w n T) (hI : IsMap l T) (hl : l.length ≤ 1000) (hA : CA w A xs) (hcA : xs.length ≤ cA) (hn : xs.length ≤ 50) (hxv : ∀ x ∈ xs, x.v.length ≤ 1000) (h0 : chkK (xs.map Cn.k) = 0) :
    Calls Tryd.prog 16 #[ptr b, T.val, .slice A xs.length cA] w fun x w' => ∃ T', x = .returned (.tuple #[T'.val, .int .i64 0]) ∧ IsMap (appC l (xs.map Cn.chg)) T' ∧ Made Mn w b n T T' (c + 90000) w' := by
  have HCK := Lib.hid (check_c A cA xs w hA (by omega))
  rw [h0] at HCK
  have hks : AscS (xs.map Cn.k) := chk_asc _ (keys12 hA) h0
  obtain ⟨pT, hpT⟩ := val_ptr nd_c hM
  have hcost : cost12 xs.length 0 ≤ 90000 := by unfold cost12; omega
  have HAL : Hid (∀ Y g, Below w.heap.size w Y → KS Y (some ⟨g, 0, none⟩) (xs.map Cn.k) → Calls Tryd.prog 31 #[.pointer (some ⟨b, 0, none⟩), .pointer pT, .agg (srtC (.slice (some ⟨g, 0, none⟩) xs.length xs.length) (.slice A xs.length cA)), .int .i64 0] Y fun e w' => ∃ T', e = .returned T'.val ∧ IsMap (appC l (xs.map Cn.chg)) T' ∧ Made Mn w b n T T' (c + 90000) w') := fun Y g hY hk => by
    have h := apply_all 256 0 rfl Y c l T xs (some ⟨g, 0, none⟩) A xs.length cA (hs_bel12 hh hY) (by omega) (hv.below hY) (nd_c.below hM hY) hI.sub (by omega) (by omega) (by omega) (AptC.zero fun x hx => by
      obtain ⟨y, hy, rfl⟩ := List.mem_map.1 hx
      exact (hA.ok y hy).key) hks hk (hA.below hY) (Nat.le_refl _) hcA hxv
    rw [hpT] at h
    refine Calls.mono h ?_
    rintro _ w' ⟨T', rfl, h1, h2⟩
    exact ⟨T', rfl, h1.map, (h2.bel12 hY).le12 (by omega)⟩
  rw [hpT]
  unfold ptr
  clear hh hc hv hM hI hl hA hcA hn hxv h0 hks hpT hcost
  go_enter Tryd.func16, Tryd.ntmps16
  go_wp2_with fail
  refine HCK.out.mono ?_
  rintro _ w1 ⟨g1, rfl, hk1, hB1⟩
  have zs := zeroSo
  obtain ⟨SV, hSV⟩ : ∃ v, v = srtC (.slice (some ⟨g1, 0, none⟩) xs.length xs.length) (.slice A xs.length cA) := ⟨_, rfl⟩
  obtain ⟨Y, hY⟩ : ∃ Y, Y = w1.alloc (.cells SV 69) := ⟨_, rfl⟩
  have st0 : stA 69 (w1.alloc (.cells (srtC (.slice none 0 0) (.slice none 0 0)) 69)) (.pointer (some ⟨w1.heap.size, 0, none⟩)) (.agg SV) = .ok .skip Y := by rw [hY, hSV]; exact stA_new w1 _ _ infoSo rfl (srt_one _ _ _ _ _ _)
  have ls : ldA 69 Y (.pointer (some ⟨w1.heap.size, 0, none⟩)) = .ok (.value (.agg SV)) Y := by rw [hY, hSV]; exact ldSo (heap_alloc_new w1 _)
  have hbY : Below w1.heap.size w1 Y := by rw [hY]; exact (Below.refl _ _).alloc (Nat.le_refl _) _
  have HA := Lib.hid (HAL.out Y g1 (hB1.trans (hbY.mono hB1.size)) (hk1.below hbY))
  rw [← hSV] at HA ⊢
  clear hB1 hSV hY hbY hk1 HCK HAL
  go_wp2_with fail
  refine HA.out.mono ?_
  rintro _ w3 ⟨T', rfl, h1, h2⟩
  obtain ⟨p', hp'⟩ := val_ptr nd_c h2.ms
  rw [hp']
  have HP := Lib.hid hp'
  have HF : Hid (IsMap (appC l (xs.map Cn.chg)) T' ∧ Made Mn w b n T T' (c + 90000) w3) := ⟨h1, h2⟩
  clear h1 h2 hp' HA ls st0 zs
  go_wp2_with fail
  go_ret2
  exact ⟨T', by rw [HP.out]; rfl, HF.out⟩
theorem en_chg (es : List En) : (es.map En.cn).map Cn.k = es.map En.k := by rw [List.map_map]; rfl
theorem app_of (es : List En) : ∀ l : List Ent, appC l ((es.map En.cn).map Cn.chg) = (es.map En.ent).foldl putK l := by
  induction es with
  | nil => exact fun l => rfl
  | cons e r ih => exact fun l => ih (putK l e.ent)
theorem asc_ents {es : List En} (hk : ∀ e ∈ es, e.k.length = 32) (h0 : chkK (es.map En.k) = 0) : Asc (es.map En.ent) := by
  have h := chk_asc (es.map En.k) (fun k hk2 => by obtain ⟨e, he, rfl⟩ := List.mem_map.1 hk2; exact hk e he) h0
  unfold AscS at h
  rw [show es.map En.k = (es.map En.ent).map Ent.k by rw [List.map_map]; rfl, List.pairwise_map] at h
  exact h
set_option maxHeartbeats 8000000 in
set_option maxRecDepth 100000 in
theorem build_no (w : World) (b : Nat) (A : Option Addr) (cA : Nat) (es : List En) (hA : EA w A es) (hn : es.length ≤ 50) (h0 : chkK (es.map En.k) ≠ 0) :
    Calls Tryd.prog 15 #[ptr b, .slice A es.length cA] w fun x w' => x = .returned (.tuple #[.pointer none, .int .i64 (chkK (es.map En.k))]) ∧ Below w.heap.size w w' := by
  have HCO := Lib.hid (collect_ec A cA es w hA (by omega))
  have HAP : Hid (∀ z g, CA z (some ⟨g, 0, none⟩) (es.map En.cn) → Calls Tryd.prog 16 #[.pointer (some ⟨b, 0, none⟩), .pointer none, .slice (some ⟨g, 0, none⟩) es.length es.length] z fun x w' => x = .returned (.tuple #[.pointer none, .int .i64 (chkK (es.map En.k))]) ∧ Below z.heap.size z w') := fun z g hz => by
    have h := apply_no z b none (some ⟨g, 0, none⟩) es.length (es.map En.cn) hz (by rw [List.length_map]; exact hn) (by rw [en_chg]; exact h0)
    rw [List.length_map, en_chg] at h
    exact h
  unfold ptr
  clear hA hn h0
  go_enter Tryd.func15, Tryd.ntmps15
  go_wp2_with fail
  refine HCO.out.mono ?_
  rintro _ w1 ⟨g, _, rfl, hca, hB1⟩
  have HA := Lib.hid (HAP.out w1 g hca)
  have HB1 := Lib.hid hB1
  clear hca hB1 HCO HAP
  go_wp2_with fail
  refine HA.out.mono ?_
  rintro _ w2 ⟨rfl, hB2⟩
  have HB2 := Lib.hid (HB1.out.trans (hB2.mono HB1.out.size))
  clear hB2 HA
  go_wp2_with fail
  go_ret2
  exact ⟨rfl, HB2.out⟩
set_option maxHeartbeats 8000000 in
set_option maxRecDepth 100000 in
theorem build_yes (w : World) (b : Nat) (n : Int) (c : Nat) (A : Option Addr) (cA : Nat) (es : List En) (hh : Hs w b n c) (hc : c ≤ 400000) (hv : Vars w) (hA : EA w A es) (hn : es.length ≤ 50) (hxv : ∀ e ∈ es, e.v.length ≤ 1000) (h0 : chkK (es.map En.k) = 0) :
    Calls Tryd.prog 15 #[ptr b, .slice A es.length cA] w fun x w' => ∃ T', x = .returned (.tuple #[T'.val, .int .i64 0]) ∧ IsMap (es.map En.ent) T' ∧ Made Mn w b n .nil T' (c + 90000) w' := by
  have HCO := Lib.hid (collect_ec A cA es w hA (by omega))
  have hap : appC [] ((es.map En.cn).map Cn.chg) = es.map En.ent := by rw [app_of]; exact ofK_sorted (asc_ents (fun e he => (hA.mem e he).key) h0)
  have hnil : IsMap [] Tv.nil := ⟨⟨fun a ha => (by cases ha), List.Pairwise.nil, fun a ha => (by cases ha)⟩, by rw [growT_none]; rfl⟩
  have HAP : Hid (∀ z g, Below w.heap.size w z → CA z (some ⟨g, 0, none⟩) (es.map En.cn) → Calls Tryd.prog 16 #[.pointer (some ⟨b, 0, none⟩), .pointer none, .slice (some ⟨g, 0, none⟩) es.length es.length] z fun x w' => ∃ T', x = .returned (.tuple #[T'.val, .int .i64 0]) ∧ IsMap (es.map En.ent) T' ∧ Made Mn w b n .nil T' (c + 90000) w') := fun z g hz hca => by
    have h := apply_yes z b n c [] .nil (some ⟨g, 0, none⟩) es.length (es.map En.cn) (hs_bel12 hh hz) hc (hv.below hz) trivial hnil (by simp) hca (by rw [List.length_map]; exact Nat.le_refl _) (by rw [List.length_map]; exact hn) (fun x hx => by obtain ⟨e, he, rfl⟩ := List.mem_map.1 hx; exact hxv e he) (by rw [en_chg]; exact h0)
    rw [List.length_map, hap] at h
    refine Calls.mono h ?_
    rintro _ w' ⟨T', rfl, h1, h2⟩
    exact ⟨T', rfl, h1, h2.bel12 hz⟩
  unfold ptr
  clear hA hn h0 hh hc hv hxv hap hnil
  go_enter Tryd.func15, Tryd.ntmps15
  go_wp2_with fail
  refine HCO.out.mono ?_
  rintro _ w1 ⟨g, _, rfl, hca, hB1⟩
  have HA := Lib.hid (HAP.out w1 g hB1 hca)
  clear hca hB1 HCO HAP
  go_wp2_with fail
  refine HA.out.mono ?_
  rintro _ w2 ⟨T', rfl, h1, h2⟩
  obtain ⟨p', hp'⟩ := val_ptr nd_c h2.ms
  rw [hp']
  have HP := Lib.hid hp'
  have HF : Hid (IsMap (es.map En.ent) T' ∧ Made Mn w b n .nil T' (c + 90000) w2) := ⟨h1, h2⟩
  clear h1 h2 hp' HA
  go_wp2_with fail
  go_ret2
  exact ⟨T', by rw [HP.out]; rfl, HF.out⟩
theorem refused12 {w w' : World} {b : Nat} {n : Int} {c m : Nat} (hh : Hs w b n c) (hm : c ≤ m) (hB : Below w.heap.size w w') : Refused w b n m w' := ⟨⟨c, hm, hs_bel12 hh hB⟩, Keep.of_below hB⟩
theorem ba_c : BaV Mn where
  build := fun w b n c A cA es hh hc hv hA hn hxv => by
    by_cases h0 : chkK (es.map En.k) = 0
    · exact (build_yes w b n c A cA es hh hc hv hA hn hxv h0).mono fun _ _ h => ⟨fun _ => h, fun h1 => absurd h0 h1⟩
    · exact (build_no w b A cA es hA hn h0).mono fun _ _ ⟨h1, h2⟩ => ⟨fun h => absurd h h0, fun _ => ⟨h1, refused12 hh (Nat.le_add_right _ _) h2⟩⟩
  apply := fun w b n c l T A cA xs hh hc hv hM hI hl hA hcA hn hxv => by
    by_cases h0 : chkK (xs.map Cn.k) = 0
    · exact (apply_yes w b n c l T A cA xs hh hc hv hM hI hl hA hcA hn hxv h0).mono fun _ _ h => ⟨fun _ => h, fun h1 => absurd h0 h1⟩
    · obtain ⟨p, hp⟩ := val_ptr nd_c hM
      rw [hp]
      exact (apply_no w b p A cA xs hA hn h0).mono fun _ _ ⟨h1, h2⟩ => ⟨fun h => absurd h h0, fun _ => ⟨h1, refused12 hh (Nat.le_add_right _ _) h2⟩⟩
  diff := fun w n S T a b hS hT hIS hIT ha hb hl hm => diff_c nd_c w n S T a b hS hT hIS hIT ha hb hl hm
end Go.Proofs.YtaajnjddfcdeaaaDoor
