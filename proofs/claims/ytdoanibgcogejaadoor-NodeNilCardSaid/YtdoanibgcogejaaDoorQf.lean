/- The program's NewLeaf (its drawn region by program: gen-tpl7-newleaf.py). -/
import Derived.Test.YtdoanibgcogejaaDoorQe
namespace Go.Proofs.YtdoanibgcogejaaDoor
open Go.RowKit

@[go_sem ↓] theorem execOp_buildLc (ρ : Operand → Value) (dst : Option Tmp) (parts : Array (Nat × Operand)) (type : TypeId) (pos : String) (after : Array Edge) (guard : Option (Nat × Bool)) (w : World) :
    Sem.run Tryd.prog (execOp ρ { dst, op := .build 71 parts, type, pos, after, guard }) w = bldA 71 w (parts.map fun x => (x.1, ρ x.2)) := rfl
@[go_sem ↓] theorem execOp_buildNode (ρ : Operand → Value) (dst : Option Tmp) (parts : Array (Nat × Operand)) (type : TypeId) (pos : String) (after : Array Edge) (guard : Option (Nat × Bool)) (w : World) :
    Sem.run Tryd.prog (execOp ρ { dst, op := .build 63 parts, type, pos, after, guard }) w = bldA 63 w (parts.map fun x => (x.1, ρ x.2)) := rfl
theorem bldFull_f (f : Nat → UInt8) (A : Option Addr) (n c : Nat) (w : World) : bldA 71 w #[(0, .agg (bA ((List.range 64).map f))), (1, .slice A n c)] =
    .ok (.value (.agg (((List.range 64).map f).map bv ++ [Value.slice A n c]).toArray)) w := by kernel_rfl
theorem bldFull (k d : List UInt8) (A : Option Addr) (l : List UInt8) (c : Nat) (hk : k.length = 32) (hd : d.length = 32) (w : World) : bldA 71 w #[(0, .agg (bA (k ++ d))), (1, .slice A l.length c)] = .ok (.value (.agg (flC (k ++ d) A l c))) w := by
  have := bldFull_f (fun j => (k ++ d).getD j 0) A l.length c w
  rw [← list64 (k ++ d) (by rw [List.length_append, hk, hd])] at this
  exact this
theorem bldNode_f (f : Nat → UInt8) (t : TypeId) (v : Value) (w : World) : bldA 63 w #[(0, .agg (bA ((List.range 32).map f))), (1, .iface t v)] = .ok (.value (.agg (((List.range 32).map f).map bv ++ [Value.iface t v]).toArray)) w := by kernel_rfl
theorem bldNode (q : List UInt8) (t : TypeId) (v : Value) (hq : q.length = 32) (w : World) : bldA 63 w #[(0, .agg (bA q)), (1, .iface t v)] = .ok (.value (.agg (nodeC q (.iface t v)))) w := by
  have := bldNode_f (fun j => q.getD j 0) t v w
  rw [← list32 q hq] at this
  exact this
theorem NewB.keep {w w' : World} {B : Nat} {A : Option Addr} {c : Nat} {l : List UInt8} {L : Nat → Prop} (h : NewB w B A c l) (k : Keep L w w') (hL : ∀ i, L i → i < B) : NewB w' B A c l :=
  ⟨h.1, h.2.imp id fun ⟨e0, h⟩ => ⟨e0, h.imp id fun ⟨g, cap, cur, e, hg, hh, hr⟩ => ⟨g, cap, cur, e, hg, k.heap hh fun hl => by have := hL _ hl; omega, hr⟩⟩⟩
/-- What NewLeaf leaves. -/
theorem newleaf_end {w y : World} {b m B : Nat} {n : Int} {x : En} {q d : List UInt8} {A2 : Option Addr} {c2 : Nat} (hk : Keep (fun i => i = b) w (y.alloc (.cells (nodeC q (.iface 71 (.agg (flC (x.k ++ d) A2 x.v c2)))) 63)))
    (hh : Hs y b n (m + 1 + 1)) (hN : NewB y B A2 c2 x.v) (hkl : x.k.length = 32) (hvl : x.v.length ≤ 1000) (hq : q = digL n (leafL x.k d)) (hd : d = digL n (valL x.v)) (hB : w.heap.size ≤ B ∧ w.heap.size ≤ y.heap.size) (_hc : True) :
    ∃ v c', Ending.returned (.pointer (some ⟨y.heap.size, 0, none⟩)) = .returned v ∧ Mn (y.alloc (.cells (nodeC q (.iface 71 (.agg (flC (x.k ++ d) A2 x.v c2)))) 63)) n (.leaf v x.ent) ∧ c' ≤ m + 2 ∧ Hs (y.alloc (.cells (nodeC q (.iface 71 (.agg (flC (x.k ++ d) A2 x.v c2)))) 63)) b n c' ∧ Keep (fun i => i = b) w (y.alloc (.cells (nodeC q (.iface 71 (.agg (flC (x.k ++ d) A2 x.v c2)))) 63)) ∧
      ∀ w2, Keep (fun i => i < w.heap.size) (y.alloc (.cells (nodeC q (.iface 71 (.agg (flC (x.k ++ d) A2 x.v c2)))) 63)) w2 → Mn w2 n (.leaf v x.ent) := by
  have hby : Below y.heap.size y (y.alloc (.cells (nodeC q (.iface 71 (.agg (flC (x.k ++ d) A2 x.v c2)))) 63)) := (Below.refl _ _).alloc (Nat.le_refl _) _
  have hn : NodeAt (y.alloc (.cells (nodeC q (.iface 71 (.agg (flC (x.k ++ d) A2 x.v c2)))) 63)) y.heap.size q (.iface 71 (.agg (flC (x.k ++ d) A2 x.v c2))) := heap_alloc_new y _
  have hN2 : NewB (y.alloc (.cells (nodeC q (.iface 71 (.agg (flC (x.k ++ d) A2 x.v c2)))) 63)) B A2 c2 x.v := ⟨hN.1, hN.2.imp id fun h => h.below hby⟩
  have hq2 : q = digT n (.leaf x.ent) := by rw [hq, hd]; rfl
  subst hd
  refine ⟨_, m + 1 + 1, rfl, ⟨y.heap.size, A2, c2, rfl, by rw [← hq2]; exact hn, ⟨hkl, hN.1, hN2.ba⟩, hvl⟩, Nat.le_refl _, hh.keep (Keep.of_below (L := fun _ => False) hby) fun h => h, hk, fun w2 h2 => ?_⟩
  have hn3 : NodeAt w2 y.heap.size q (.iface 71 (.agg (flC (x.k ++ digL n (valL x.v)) A2 x.v c2))) := h2.heap hn (by omega)
  have hN3 := hN2.keep h2 fun i hi => by omega
  exact ⟨y.heap.size, A2, c2, rfl, by rw [← hq2]; exact hn3, ⟨hkl, hN.1, hN3.ba⟩, hvl⟩
set_option maxHeartbeats 8000000 in
set_option maxRecDepth 100000 in
theorem newleaf_n (w : World) (b : Nat) (n : Int) (m : Nat) (x : En) (hh : Hs w b n m) (hm : m ≤ 1000000) (hv : Vars w) (hx : EnOk w x) (hl : x.v.length ≤ 1000) :
    Calls Tryd.prog 16 #[ptr b, .agg (enC x).toArray] w fun e w' => ∃ v c', e = .returned v ∧ Mn w' n (.leaf v x.ent) ∧ c' ≤ m + 2 ∧ Hs w' b n c' ∧ Keep (fun i => i = b) w w' ∧ ∀ w2, Keep (fun i => i < w.heap.size) w' w2 → Mn w2 n (.leaf v x.ent) := by
  obtain ⟨X, hX⟩ : ∃ X, X = w.alloc (.cells (enC x).toArray 39) := ⟨_, rfl⟩
  have hb0 : Below w.heap.size w X := by rw [hX]; exact (Below.refl _ _).alloc (Nat.le_refl _) _
  have hr0 : X.rangeAt w.heap.size 0 (enC x) := by rw [hX]; exact ent_made w x _
  have hne : w.heap.size ≠ b := by have := lt_of_heap hh; omega
  have HX := Lib.hid hX
  have HKX : Hid (Keep (fun i => i = b) w X) := Keep.of_below hb0
  have HHX := Lib.hid (hh.keep (Keep.of_below (L := fun _ => False) hb0) fun h => h)
  have HVX := Lib.hid (hv.below hb0)
  have HKL := Lib.hid hx.key
  have HVL := Lib.hid hl
  have HSX : Hid (w.heap.size < X.heap.size) := by show _ < _; rw [hX]; simp
  have HBX : Hid (BA X x.A x.v) := hx.val.below hb0
  have lk := range_key hr0 hx.key
  have lc := range_val hr0 hx.key
  rw [Nat.zero_add] at lc
  rw [hX] at lk lc
  have HRX := Lib.hid hr0
  have HNE := Lib.hid hne
  have HC0 := Lib.hid (leafof_c b n m x.k x.A x.c x.v X HHX.out hm hx.key HBX.out hx.cap hl HVX.out)
  obtain ⟨d, hd⟩ : ∃ d, d = digL n (valL x.v) := ⟨_, rfl⟩
  have hdl : d.length = 32 := by rw [hd]; exact dig_len _ _
  rw [← hd] at HC0
  obtain ⟨q, hq⟩ : ∃ q, q = digL n (leafL x.k d) := ⟨_, rfl⟩
  have hql : q.length = 32 := by rw [hq]; exact dig_len _ _
  have HD := Lib.hid hd
  have HDL := Lib.hid hdl
  have HQ := Lib.hid hq
  have HQL := Lib.hid hql
  have HL64 : Hid ((x.k ++ d).length = 64) := by show _ = _; rw [List.length_append, HKL.out, hdl]
  have HCX : Hid (x.v.length ≤ x.c) := hx.cap
  have HC : Hid True := trivial
  clear hX hb0 hr0 hne hv hx hh hd hdl hq hql
  unfold ptr
  go_enter Tryd.func16, Tryd.ntmps16
  go_wp2_with fail
  rw [← HX.out]
  refine HC0.out.mono ?_
  rintro _ w1 ⟨rfl, hH1, hK1⟩
  have st := stA_new (t := 44) w1 (bA z64) (bA (x.k ++ d)) (by rw [bA_size, HL64.out]; exact infoLeaf) (by rw [bA_size, bA_size, HL64.out]; rfl) (bA_one _)
  obtain ⟨Z, hZ⟩ : ∃ Z, Z = w1.alloc (.cells (bA (x.k ++ d)) 44) := ⟨_, rfl⟩
  have hbZ : Below w1.heap.size w1 Z := by rw [hZ]; exact (Below.refl _ _).alloc (Nat.le_refl _) _
  have hrZ : Z.heap[w1.heap.size]? = some (.cells (bA (x.k ++ d)) 44 (0, 0)) := by rw [hZ]; exact heap_alloc_new w1 _
  have hKZ : Keep (fun i => i = b) X Z := hK1.trans (Keep.of_below hbZ)
  have hb1 : w1.heap.size ≠ b := by have := lt_of_heap hH1; omega
  have HZ := Lib.hid hZ
  have HZ0 : Hid (∀ w', Keep (fun i => i = b) Z w' → Keep (fun i => i = b) w w') := fun w' h => (HKX.out.trans hKZ).trans h
  have HH0 : Hid (Hs Z.drew b n (m + 1)) := hH1.keep (Keep.of_below (L := fun _ => False) hbZ.drew) fun h => h
  have HV0 : Hid (Vars Z.drew) := (HVX.out.hs HHX.out hK1).below hbZ.drew
  have HSZ : Hid (w.heap.size ≤ Z.heap.size) := by show _ ≤ _; have := HSX.out; have := hKZ.size; omega
  have LL : Hid (∀ w', Keep (fun i => i = b) Z w' → ldA 44 w' (.pointer (some ⟨w1.heap.size, 0, none⟩)) = .ok (.value (.agg (bA (x.k ++ d)))) w') := fun w' h => RowB.ldLeaf (h.heap hrZ hb1) HL64.out
  have hrg : ∀ w', Keep (fun i => i = b) Z w' → w'.rangeAt w.heap.size 0 (enC x) := fun w' h j v hv => (hKZ.trans h).cellAt (HRX.out j v hv) HNE.out
  have LC : Hid (∀ w', Keep (fun i => i = b) Z w' → w'.cell? ⟨w.heap.size, 32, none⟩ = some (.slice x.A x.v.length x.c)) := fun w' h => by
    have := range_val (hrg w' h) HKL.out
    rwa [Nat.zero_add] at this
  have HBA : Hid (∀ w', Keep (fun i => i = b) Z w' → BA w' x.A x.v) := fun w' h => HHX.out.ba HBX.out (hKZ.trans h)
  clear hH1 hK1 hZ hbZ hrZ hKZ hb1 hrg HC0 lk lc HX
  go_wp2_with fail
  rw [← HZ.out]
  clear HZ st
  refine wp_region_held_drew (S := fun w' => Keep (fun i => i = b) Z w') (by kernel_rfl) ((Keep.refl _ _).drew) (fun hHeld => ?_)
  have hb0 : Keep (fun i => i = b) Z Z.drew := (Keep.refl _ _).drew
  refine wpAnyH_take (i := 0) (oi := { dst := some 12, op := .move (.tmp 0), type := _, pos := _, after := _, guard := _ }) (v := ?_) rfl (by kernel_rfl) (by kernel_rfl) (by kernel_rfl) (fun _ _ _ h => h) (Or.inl ⟨by rfl, ?_⟩) (by assumption) ?_
  rotate_left 1
  · intro v hSv
    clear hSv
    go_simp
    try with_reducible rfl
  try simp only [Act.put, List.setIfInBounds_toArray, List.set_cons_zero, List.set_cons_succ]
  refine wpAnyH_take (i := 1) (oi := { dst := some 13, op := .load _ (.tmp 5), type := _, pos := _, after := _, guard := _ }) (v := ?_) rfl (by kernel_rfl) (by kernel_rfl) (by kernel_rfl) (fun _ _ _ h => h) (Or.inl ⟨by rfl, ?_⟩) (by assumption) ?_
  rotate_left 1
  · intro v hSv
    have hv1 := LL.out v hSv
    clear hSv
    go_simp
    try with_reducible rfl
  try simp only [Act.put, List.setIfInBounds_toArray, List.set_cons_zero, List.set_cons_succ]
  refine wpAnyH_take (i := 4) (oi := { dst := some 16, op := .load _ (.tmp 5), type := _, pos := _, after := _, guard := _ }) (v := ?_) rfl (by kernel_rfl) (by kernel_rfl) (by kernel_rfl) (fun _ _ _ h => h) (Or.inl ⟨by rfl, ?_⟩) (by assumption) ?_
  rotate_left 1
  · intro v hSv
    have hv1 := LL.out v hSv
    clear hSv
    go_simp
    try with_reducible rfl
  try simp only [Act.put, List.setIfInBounds_toArray, List.set_cons_zero, List.set_cons_succ]
  refine wpAnyH_take (i := 5) (oi := { dst := some 17, op := .fieldAddr _ (.tmp 3) 1, type := _, pos := _, after := _, guard := _ }) (v := ?_) rfl (by kernel_rfl) (by kernel_rfl) (by kernel_rfl) (fun _ _ _ h => h) (Or.inl ⟨by rfl, ?_⟩) (by assumption) ?_
  rotate_left 1
  · intro v hSv
    clear hSv
    go_simp
    try with_reducible rfl
  try simp only [Act.put, List.setIfInBounds_toArray, List.set_cons_zero, List.set_cons_succ]
  refine wpAnyH_take (i := 6) (oi := { dst := some 18, op := .load _ (.tmp 17), type := _, pos := _, after := _, guard := _ }) (v := ?_) rfl (by kernel_rfl) (by kernel_rfl) (by kernel_rfl) (fun _ _ _ h => h) (Or.inl ⟨by rfl, ?_⟩) (by assumption) ?_
  rotate_left 1
  · intro v hSv
    have hv1 := LC.out v hSv
    clear hSv
    go_simp
    try with_reducible rfl
  try simp only [Act.put, List.setIfInBounds_toArray, List.set_cons_zero, List.set_cons_succ]
  refine wpAnyH_ready (rs := [2]) (by kernel_rfl) (by simp) ?_
  refine AllReadyH.cons (o := { dst := some 14, op := .call _, type := _, pos := _, after := _, guard := _ }) rfl (fun K hK => ?_) AllReadyH.nil
  go_simp
  refine (pleaf_c x.k d Z.drew HKL.out HDL.out).mono ?_
  rintro e y1 ⟨A1, c1, rfl, hn1, hc1, hA1, hb⟩
  have hb1 : Keep (fun i => i = b) Z y1 := (hb0).trans (Keep.of_below hb)
  have HH1 := Lib.hid (HH0.out.keep (Keep.of_below (L := fun _ => False) hb) fun h => h)
  have HS := Lib.hid (sum_hs b n (m + 1) A1 (leafL x.k d) c1 y1 HH1.out (by omega) hA1 (by omega) (by omega) (HV0.out.below hb))
  rw [hn1, ← HQ.out] at HS
  clear hn1 hc1 hA1
  clear hb
  go_wp2_with fail
  refine hK.out _ _ (hb1) (fun hHeld => ?_)
  clear hK K
  try simp only [Act.put, List.setIfInBounds_toArray, List.set_cons_zero, List.set_cons_succ]
  refine wpAnyH_ready (rs := [3]) (by kernel_rfl) (by simp) ?_
  refine AllReadyH.cons (o := { dst := some 15, op := .call _, type := _, pos := _, after := _, guard := _ }) rfl (fun K hK => ?_) AllReadyH.nil
  go_simp
  refine (HS.out).mono ?_
  rintro e y2 ⟨rfl, hh2, hb⟩
  have hb2 : Keep (fun i => i = b) Z y2 := (hb1).trans hb
  have HH2 := Lib.hid hh2
  clear hh2
  clear hb
  go_wp2_with fail
  refine hK.out _ _ (hb2) (fun hHeld => ?_)
  clear hK K
  try simp only [Act.put, List.setIfInBounds_toArray, List.set_cons_zero, List.set_cons_succ]
  refine wpAnyH_ready (rs := [7]) (by kernel_rfl) (by simp) ?_
  refine AllReadyH.cons (o := { dst := some 19, op := .call _, type := _, pos := _, after := _, guard := _ }) rfl (fun K hK => ?_) AllReadyH.nil
  go_simp
  refine (clone_new x.A x.v x.c y2 (HBA.out _ (hb2)) (by omega)).mono ?_
  rintro e y3 ⟨A2, c2, rfl, hN, hb⟩
  have hb3 : Keep (fun i => i = b) Z y3 := (hb2).trans (Keep.of_below hb)
  have HH3 := Lib.hid (HH2.out.keep (Keep.of_below (L := fun _ => False) hb) fun h => h)
  have HN := Lib.hid hN
  have HSN : Hid (w.heap.size ≤ y2.heap.size ∧ w.heap.size ≤ y3.heap.size) := ⟨Nat.le_trans HSZ.out (hb2).size, Nat.le_trans (Nat.le_trans HSZ.out (hb2).size) hb.size⟩
  clear hN
  clear hb
  go_wp2_with fail
  refine hK.out _ _ (hb3) (fun hHeld => ?_)
  clear hK K
  try simp only [Act.put, List.setIfInBounds_toArray, List.set_cons_zero, List.set_cons_succ]
  refine wpAnyH_take (i := 8) (oi := { dst := some 20, op := .build _ #[(0, .tmp 16), (1, .tmp 19)], type := _, pos := _, after := _, guard := _ }) (v := ?_) rfl (by kernel_rfl) (by kernel_rfl) (by kernel_rfl) (fun _ _ _ h => h) (Or.inl ⟨by rfl, ?_⟩) (by assumption) ?_
  rotate_left 1
  · intro v hSv
    have hv1 := bldFull x.k d A2 x.v c2 HKL.out HDL.out v
    clear hSv
    go_simp
    try with_reducible rfl
  try simp only [Act.put, List.setIfInBounds_toArray, List.set_cons_zero, List.set_cons_succ]
  refine wpAnyH_take (i := 9) (oi := { dst := some 21, op := .makeInterface _ (.tmp 20), type := _, pos := _, after := _, guard := _ }) (v := ?_) rfl (by kernel_rfl) (by kernel_rfl) (by kernel_rfl) (fun _ _ _ h => h) (Or.inl ⟨by rfl, ?_⟩) (by assumption) ?_
  rotate_left 1
  · intro v hSv
    clear hSv
    go_simp
    try with_reducible rfl
  try simp only [Act.put, List.setIfInBounds_toArray, List.set_cons_zero, List.set_cons_succ]
  refine wpAnyH_take (i := 10) (oi := { dst := some 22, op := .build _ #[(0, .tmp 15), (1, .tmp 21)], type := _, pos := _, after := _, guard := _ }) (v := ?_) rfl (by kernel_rfl) (by kernel_rfl) (by kernel_rfl) (fun _ _ _ h => h) (Or.inl ⟨by rfl, ?_⟩) (by assumption) ?_
  rotate_left 1
  · intro v hSv
    have hv1 := bldNode q 71 (.agg (flC (x.k ++ d) A2 x.v c2)) HQL.out v
    clear hSv
    go_simp
    try with_reducible rfl
  try simp only [Act.put, List.setIfInBounds_toArray, List.set_cons_zero, List.set_cons_succ]
  refine wpAnyH_ready (rs := [11]) (by kernel_rfl) (by simp) ?_
  refine AllReadyH.cons (o := { dst := some 23, op := .box _ (.tmp 22), type := _, pos := _, after := _, guard := _ }) rfl (fun K hK => ?_) AllReadyH.nil
  go_simp
  refine hK.out _ _ ((hb3).alloc _) (fun hHeld => ?_)
  clear hK K
  try simp only [Act.put, List.setIfInBounds_toArray, List.set_cons_zero, List.set_cons_succ]
  refine wpAnyH_take (i := 12) (oi := { dst := some 4, op := .assign (.tmp 23), type := _, pos := _, after := _, guard := _ }) (v := ?_) rfl (by kernel_rfl) (by kernel_rfl) (by kernel_rfl) (fun _ _ _ h => h) (Or.inl ⟨by rfl, ?_⟩) (by assumption) ?_
  rotate_left 1
  · intro v hSv
    clear hSv
    go_simp
    try with_reducible rfl
  try simp only [Act.put, List.setIfInBounds_toArray, List.set_cons_zero, List.set_cons_succ]
  refine wpAnyH_done (by kernel_rfl) ?_ _
  go_wp2_with fail
  go_ret
  exact newleaf_end (HZ0.out _ ((hb3).alloc _)) HH3.out HN.out HKL.out HVL.out HQ.out HD.out HSN.out HC.out
end Go.Proofs.YtdoanibgcogejaaDoor
