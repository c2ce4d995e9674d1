/- The walk of ShaJoins. -/
import Derived.Test.YtkbipmhhiahkpaaDoorN
import Derived.Test.YtkbipmhhiahkpaaDoorP
namespace Go.Proofs.YtkbipmhhiahkpaaDoor
open Go.RowKit

set_option maxHeartbeats 2000000 in
set_option maxRecDepth 100000 in
theorem joins_long (A : Option Addr) (c : Nat) (l : List UInt8) (i j : Int) (W : World) (hv : Vars W) (h : 2000 < l.length) : Calls Tryd.prog 6 #[.slice A l.length c, .int .u16 i, .int .u16 j] W (Yes W) := by
  have d1 : decide (2000 < l.length) = true := decide_eq_true h
  have d2 : decide (2000 < (l.length : Int)) = true := decide_eq_true (by omega)
  have HV := Lib.hid hv
  clear hv
  go_enter Tryd.func6, Tryd.ntmps6
  go_wp2_with fail
  refine (alive_c W HV.out).mono ?_
  rintro e w2 ⟨rfl, hb2⟩
  go_wp2_with fail
  go_ret
  exact ⟨rfl, hb2⟩
/-! ### The three parts of a slice -/
def cutA (A : Option Addr) (c p : Nat) : Option Addr := if c = p then A else A.map (·.add p)
theorem BA.cut {w : World} {A : Option Addr} {l : List UInt8} {c : Nat} (h : BA w A l) (hc : l.length ≤ c) (p m : Nat) : BA w (cutA A c p) ((l.drop p).take m) := fun j x hx => by
  have hx2 : l[p + j]? = some x := by
    rw [List.getElem?_take] at hx
    split at hx
    · rwa [List.getElem?_drop] at hx
    · cases hx
  have hlt := (List.getElem?_eq_some_iff.1 hx2).1
  obtain ⟨b, o, rfl, h1⟩ := h _ _ hx2
  refine ⟨b, o + p, ?_, by rw [Nat.add_assoc]; exact h1⟩
  unfold cutA
  rw [if_neg (by omega)]
  simp [add_none]
theorem BA.takeA {w : World} {A : Option Addr} {l : List UInt8} (h : BA w A l) (n : Nat) : BA w A (l.take n) := fun j x hx => by
  rw [List.getElem?_take] at hx
  split at hx
  · exact h j x hx
  · cases hx
theorem elem22 : Tryd.prog.elem 22 = 5 := by kernel_rfl
theorem ht22 : Tryd.prog.underlying 22 = some (.slice (Tryd.prog.elem 22)) := by rw [elem22]; exact Tryd.underlying22
theorem cut_h (A : Option Addr) (n c q : Nat) (h : q ≤ c) (w : World) : (Instr.sliceAt 22 (.slice A n c) none (some (.int .i64 (q : Int))) none).run Tryd.prog w = .ok (.slice A q c) w := by
  rw [run_sliceAt_slice w 22 _ _ _ _ ht22, run_slice_h w 22 _ _ _ ht22 .i64 _ (by omega) (by omega), elem22, size5]
  cases A <;> simp [sliced, Addr.add]
theorem cut_lh (A : Option Addr) (n c p q : Nat) (h : p ≤ q) (h2 : q ≤ c) (w : World) : (Instr.sliceAt 22 (.slice A n c) (some (.int .i64 (p : Int))) (some (.int .i64 (q : Int))) none).run Tryd.prog w = .ok (.slice (cutA A c p) (q - p) (c - p)) w := by
  rw [run_sliceAt_slice w 22 _ _ _ _ ht22, run_slice_lh w 22 _ _ _ ht22 .i64 .i64 _ _ (by omega) (by omega) (by omega), elem22, size5]
  simp [sliced, cutA]
theorem cut_l (A : Option Addr) (n c p : Nat) (h : p ≤ n) (w : World) : (Instr.sliceAt 22 (.slice A n c) (some (.int .i64 (p : Int))) none none).run Tryd.prog w = .ok (.slice (cutA A c p) (n - p) (c - p)) w := by
  rw [run_sliceAt_slice w 22 _ _ _ _ ht22, run_slice_l w 22 _ _ _ ht22 .i64 _ (by omega) (by omega), elem22, size5]
  simp [sliced, cutA]
theorem sl_cuts {w : World} {A : Option Addr} {l : List UInt8} {c : Nat} (h : BA w A l) (hc : l.length ≤ c) (p q : Nat) (hpq : p ≤ q) (hq : q ≤ l.length) :
    SL (w.alloc (.cells #[.slice A p c, .slice (cutA A c p) (q - p) (c - p), .slice (cutA A c q) (l.length - q) (c - q)] 22)) (some ⟨w.heap.size, 0, none⟩) [⟨A, l.take p, c⟩, ⟨cutA A c p, (l.drop p).take (q - p), c - p⟩, ⟨cutA A c q, (l.drop q).take (l.length - q), c - q⟩] := by
  have e1 : (l.take p).length = p := by rw [List.length_take]; omega
  have e2 : ((l.drop p).take (q - p)).length = q - p := by rw [List.length_take, List.length_drop]; omega
  have e3 : ((l.drop q).take (l.length - q)).length = l.length - q := by rw [List.length_take, List.length_drop]; omega
  have := sl_made w [⟨A, l.take p, c⟩, ⟨cutA A c p, (l.drop p).take (q - p), c - p⟩, ⟨cutA A c q, (l.drop q).take (l.length - q), c - q⟩] 22 fun x hx => by
    simp only [List.mem_cons, List.not_mem_nil, or_false] at hx
    rcases hx with rfl | rfl | rfl
    · exact ⟨Nat.le_trans (Nat.le_of_eq e1) (show p ≤ c by omega), h.takeA p⟩
    · exact ⟨Nat.le_trans (Nat.le_of_eq e2) (show q - p ≤ c - p by omega), h.cut hc p _⟩
    · exact ⟨Nat.le_trans (Nat.le_of_eq e3) (show l.length - q ≤ c - q by omega), h.cut hc q _⟩
  simpa only [List.map_cons, List.map_nil, Pc.val, e1, e2, e3] using this
theorem cat_cuts (A : Option Addr) (l : List UInt8) (c p q : Nat) (hpq : p ≤ q) : catAll [⟨A, l.take p, c⟩, ⟨cutA A c p, (l.drop p).take (q - p), c - p⟩, ⟨cutA A c q, (l.drop q).take (l.length - q), c - q⟩] = l := by
  have e3 : (l.drop q).take (l.length - q) = l.drop q := List.take_of_length_le (by rw [List.length_drop]; omega)
  have e4 : l.drop q = (l.drop p).drop (q - p) := by rw [List.drop_drop]; congr 1; omega
  simp only [catAll, List.flatMap_cons, List.flatMap_nil, List.append_nil, e3]
  rw [e4, List.take_append_drop, List.take_append_drop]
theorem sl_mid {w : World} {A : Option Addr} {l : List UInt8} {c : Nat} (h : BA w A l) (hc : l.length ≤ c) :
    SL (w.alloc (.cells #[.slice none 0 0, .slice A l.length c, .slice none 0 0] 22)) (some ⟨w.heap.size, 0, none⟩) [⟨none, [], 0⟩, ⟨A, l, c⟩, ⟨none, [], 0⟩] :=
  sl_made w [⟨none, [], 0⟩, ⟨A, l, c⟩, ⟨none, [], 0⟩] 22 fun x hx => by
    simp only [List.mem_cons, List.not_mem_nil, or_false] at hx
    rcases hx with rfl | rfl | rfl
    · exact ⟨Nat.le_refl _, BA_nil _ _⟩
    · exact ⟨hc, h⟩
    · exact ⟨Nat.le_refl _, BA_nil _ _⟩
theorem join_l (A : Option Addr) (c n : Nat) (s1 l : List UInt8) (w : World) (hs : s1 = sumL l) (hl : l.length ≤ 2000) (hn : n ≤ 3) (h : ∃ ls : List Pc, ls.length = n ∧ SL w A ls ∧ catAll ls = l) (hv : Vars w) :
    Calls Tryd.prog 17 #[.slice A n c] w fun e w' => e = .returned (.agg (bA s1)) ∧ Below w.heap.size w w' := by
  obtain ⟨ls, h1, h2, h3⟩ := h
  have := join_c A c ls w h2 hv.kt hv.it (by rw [h3]; omega) (by omega)
  rwa [h1, h3, ← hs] at this
set_option maxHeartbeats 8000000 in
set_option maxRecDepth 100000 in
theorem joins_lt (A : Option Addr) (c : Nat) (l : List UInt8) (i j x0 y0 : Nat) (W : World) (hA : BA W A l) (hc : l.length ≤ c) (hv : Vars W) (h : l.length ≤ 2000) (hi : i ≤ 65535) (hj : j ≤ 65535)
    (hx0 : x0 = i % (l.length + 1)) (hy0 : y0 = j % (l.length + 1)) (hlt : x0 < y0) : Calls Tryd.prog 6 #[.slice A l.length c, .int .u16 (i : Int), .int .u16 (j : Int)] W (Yes W) := by
  have d1 : decide (2000 < l.length) = false := decide_eq_false (by omega)
  have d2 : decide (2000 < (l.length : Int)) = false := decide_eq_false (by omega)
  have HV := Lib.hid hv
  have HA := Lib.hid hA
  have hx1 : x0 ≤ l.length := by rw [hx0]; have := Nat.mod_lt i (show 0 < l.length + 1 by omega); omega
  have hy1 : y0 ≤ l.length := by rw [hy0]; have := Nat.mod_lt j (show 0 < l.length + 1 by omega); omega
  have ex : (i : Int) % ((l.length : Int) + 1) = (x0 : Int) := by rw [hx0]; simp
  have ey : (j : Int) % ((l.length : Int) + 1) = (y0 : Int) := by rw [hy0]; simp
  have w1 : IntKind.i64.wrap ((l.length : Int) + 1) = (l.length : Int) + 1 := IntWalk.i64_in _ (by omega)
  have dz : (((l.length : Int) + 1) == 0) = false := by rw [beq_eq_false_iff_ne]; omega
  have l1 : decide (x0 < y0) = true := decide_eq_true hlt
  have l2 : decide (y0 < x0) = false := decide_eq_false (by omega)
  clear hv hA hx0 hy0
  go_enter Tryd.func6, Tryd.ntmps6
  go_wp2_with fail
  refine wp_region_quiet_lit (by kernel_rfl) (by kernel_rfl) ?_
  repeat (go_big_quiet_step (fail))
  refine wpQuiet_nil ?_
  rintro _ ⟨nq, rfl⟩
  clear w1 dz
  go_wp2_with fail
  clear ex ey
  have HBq : Hid (Below W.heap.size W (W.drewN nq)) := below_drewN (Below.refl _ _) nq
  refine (rsum_c A c l (W.drewN nq) (HA.out.below HBq.out) (by omega)).mono ?_
  rintro e w2 ⟨rfl, hb2⟩
  have HB2 : Hid (Below W.heap.size W w2) := HBq.out.trans hb2
  obtain ⟨s1, hs1⟩ : ∃ s, s = sumL l := ⟨_, rfl⟩
  rw [← hs1]
  have HS1 := Lib.hid hs1
  have st0 := stA_new (t := 26) w2 (bA z26) (bA s1) (by rw [bA_size, hs1, sumL_len]; exact info26) (by rw [bA_size, bA_size, hs1, sumL_len]; rfl) (bA_one _)
  clear hb2 hs1
  go_wp2_with fail
  obtain ⟨X, hX⟩ : ∃ X, X = w2.alloc (.cells (bA s1) 26) := ⟨_, rfl⟩
  have h1 : X.heap[w2.heap.size]? = some (.cells (bA s1) 26 (0, 0)) := by rw [hX]; exact heap_alloc_new w2 _
  have HB3 : Hid (Below W.heap.size W X) := by show Below _ _ _; rw [hX]; exact HB2.out.alloc HB2.out.size _
  rw [← hX]
  have LD : Hid (∀ w', Below X.heap.size X w' → ldA 26 w' (.pointer (some ⟨w2.heap.size, 0, none⟩)) = .ok (.value (.agg (bA s1))) w') := fun w' hb =>
    ldA_row (t' := 26) (fr := (0, 0)) (by rw [hb.block _ (lt_of_heap h1)]; exact h1) Tryd.underlying26 (by rw [bA_size, HS1.out, sumL_len]; exact info26)
  have VV : Hid (∀ w', Below X.heap.size X w' → Vars w') := fun w' hb => (HV.out.below HB3.out).below hb
  have BB : Hid (∀ w', Below X.heap.size X w' → BA w' A l) := fun w' hb => (HA.out.below HB3.out).below hb
  have hq : ∀ w, (Op.equalIn 10000 26 (.agg (bA s1)) (.agg (bA s1))).run Tryd.prog w = .ok true w := fun w => eq26 s1 (by rw [HS1.out, sumL_len]) w
  have k1 := fun w => cut_h A l.length c x0 (by omega) w
  have k2 := fun w => cut_lh A l.length c x0 y0 (by omega) (by omega) w
  have k3 := fun w => cut_l A l.length c y0 (by omega) w
  have J1 : Hid (∀ w', Below X.heap.size X w' → ∃ ls : List Pc, ls.length = 3 ∧ SL (w'.alloc (.cells #[.slice A x0 c, .slice (cutA A c x0) (y0 - x0) (c - x0), .slice (cutA A c y0) (l.length - y0) (c - y0)] 22)) (some ⟨w'.heap.size, 0, none⟩) ls ∧ catAll ls = l) := fun w' hb => ⟨_, rfl, sl_cuts (BB.out w' hb) hc x0 y0 (by omega) (by omega), cat_cuts A l c x0 y0 (by omega)⟩
  have J2 : Hid (∀ w', Below X.heap.size X w' → ∃ ls : List Pc, ls.length = 1 ∧ SL (w'.alloc (.cells #[.slice A l.length c] 22)) (some ⟨w'.heap.size, 0, none⟩) ls ∧ catAll ls = l) := fun w' hb => ⟨_, rfl, sl_one (BB.out w' hb) hc 22, by simp [catAll]⟩
  have J3 : Hid (∀ w', Below X.heap.size X w' → ∃ ls : List Pc, ls.length = 3 ∧ SL (w'.alloc (.cells #[.slice none 0 0, .slice A l.length c, .slice none 0 0] 22)) (some ⟨w'.heap.size, 0, none⟩) ls ∧ catAll ls = l) := fun w' hb => ⟨_, rfl, sl_mid (BB.out w' hb) hc, by simp [catAll]⟩
  have hb0 : Below X.heap.size X X := Below.refl _ _
  clear hX h1 st0
  refine wp_region_held_drew (S := fun w' => Below X.heap.size X w' ∧ ldA 26 w' (.pointer (some ⟨w2.heap.size, 0, none⟩)) = .ok (.value (.agg (bA s1))) w') (by kernel_rfl) ⟨hb0.drew, LD.out _ hb0.drew⟩ (fun hHeld => ?_)
  refine wpAnyH_ready (rs := [0]) (by kernel_rfl) (by simp) ?_
  refine AllReadyH.cons (o := { dst := some 34, op := .call _, type := _, pos := _, after := _, guard := _ }) rfl (fun K hK => ?_) AllReadyH.nil
  go_simp
  refine (alive_c _ (VV.out _ hb0.drew)).mono ?_
  rintro e y1 ⟨rfl, hb⟩
  have hb1 : Below X.heap.size X y1 := hb0.drew.trans (hb.mono (Nat.le_refl _))
  clear hb
  go_wp2_with fail
  refine hK.out _ _ ⟨hb1, LD.out _ (hb1)⟩ (fun hHeld => ?_)
  clear hK K
  try simp only [Act.put, List.setIfInBounds_toArray, List.set_cons_zero, List.set_cons_succ]
  refine wpAnyH_take (i := 1) (oi := { dst := some 35, op := .move (.tmp 34), type := _, pos := _, after := _, guard := _ }) (v := ?_) rfl (by kernel_rfl) (by kernel_rfl) (by kernel_rfl) (fun _ _ _ h => h) (Or.inl ⟨by rfl, ?_⟩) (by assumption) ?_
  rotate_left 1
  · intro v hSv
    have hv1 := hSv.2
    clear hSv
    go_simp
    try with_reducible rfl
  try simp only [Act.put, List.setIfInBounds_toArray, List.set_cons_zero, List.set_cons_succ]
  refine wpAnyH_take (i := 2) (oi := { dst := some 36, op := .move (.tmp 0), type := _, pos := _, after := _, guard := _ }) (v := ?_) rfl (by kernel_rfl) (by kernel_rfl) (by kernel_rfl) (fun _ _ _ h => h) (Or.inl ⟨by rfl, ?_⟩) (by assumption) ?_
  rotate_left 1
  · intro v hSv
    have hv1 := hSv.2
    clear hSv
    go_simp
    try with_reducible rfl
  try simp only [Act.put, List.setIfInBounds_toArray, List.set_cons_zero, List.set_cons_succ]
  refine wpAnyH_take (i := 3) (oi := { dst := some 37, op := .move (.tmp 7), type := _, pos := _, after := _, guard := _ }) (v := ?_) rfl (by kernel_rfl) (by kernel_rfl) (by kernel_rfl) (fun _ _ _ h => h) (Or.inl ⟨by rfl, ?_⟩) (by assumption) ?_
  rotate_left 1
  · intro v hSv
    have hv1 := hSv.2
    clear hSv
    go_simp
    try with_reducible rfl
  try simp only [Act.put, List.setIfInBounds_toArray, List.set_cons_zero, List.set_cons_succ]
  refine wpAnyH_take (i := 4) (oi := { dst := some 38, op := .slice 22 (.tmp 36) none (some (.tmp 37)) none, type := _, pos := _, after := _, guard := _ }) (v := ?_) rfl (by kernel_rfl) (by kernel_rfl) (by kernel_rfl) (fun _ _ _ h => h) (Or.inl ⟨by rfl, ?_⟩) (by assumption) ?_
  rotate_left 1
  · intro v hSv
    have hv1 := hSv.2
    clear hSv
    go_simp
    try with_reducible rfl
  try simp only [Act.put, List.setIfInBounds_toArray, List.set_cons_zero, List.set_cons_succ]
  refine wpAnyH_take (i := 5) (oi := { dst := some 39, op := .move (.tmp 0), type := _, pos := _, after := _, guard := _ }) (v := ?_) rfl (by kernel_rfl) (by kernel_rfl) (by kernel_rfl) (fun _ _ _ h => h) (Or.inl ⟨by rfl, ?_⟩) (by assumption) ?_
  rotate_left 1
  · intro v hSv
    have hv1 := hSv.2
    clear hSv
    go_simp
    try with_reducible rfl
  try simp only [Act.put, List.setIfInBounds_toArray, List.set_cons_zero, List.set_cons_succ]
  refine wpAnyH_take (i := 6) (oi := { dst := some 40, op := .move (.tmp 7), type := _, pos := _, after := _, guard := _ }) (v := ?_) rfl (by kernel_rfl) (by kernel_rfl) (by kernel_rfl) (fun _ _ _ h => h) (Or.inl ⟨by rfl, ?_⟩) (by assumption) ?_
  rotate_left 1
  · intro v hSv
    have hv1 := hSv.2
    clear hSv
    go_simp
    try with_reducible rfl
  try simp only [Act.put, List.setIfInBounds_toArray, List.set_cons_zero, List.set_cons_succ]
  refine wpAnyH_take (i := 7) (oi := { dst := some 41, op := .move (.tmp 8), type := _, pos := _, after := _, guard := _ }) (v := ?_) rfl (by kernel_rfl) (by kernel_rfl) (by kernel_rfl) (fun _ _ _ h => h) (Or.inl ⟨by rfl, ?_⟩) (by assumption) ?_
  rotate_left 1
  · intro v hSv
    have hv1 := hSv.2
    clear hSv
    go_simp
    try with_reducible rfl
  try simp only [Act.put, List.setIfInBounds_toArray, List.set_cons_zero, List.set_cons_succ]
  refine wpAnyH_take (i := 8) (oi := { dst := some 42, op := .slice 22 (.tmp 39) (some (.tmp 40)) (some (.tmp 41)) none, type := _, pos := _, after := _, guard := _ }) (v := ?_) rfl (by kernel_rfl) (by kernel_rfl) (by kernel_rfl) (fun _ _ _ h => h) (Or.inl ⟨by rfl, ?_⟩) (by assumption) ?_
  rotate_left 1
  · intro v hSv
    have hv1 := hSv.2
    clear hSv
    go_simp
    try with_reducible rfl
  try simp only [Act.put, List.setIfInBounds_toArray, List.set_cons_zero, List.set_cons_succ]
  refine wpAnyH_take (i := 9) (oi := { dst := some 43, op := .move (.tmp 0), type := _, pos := _, after := _, guard := _ }) (v := ?_) rfl (by kernel_rfl) (by kernel_rfl) (by kernel_rfl) (fun _ _ _ h => h) (Or.inl ⟨by rfl, ?_⟩) (by assumption) ?_
  rotate_left 1
  · intro v hSv
    have hv1 := hSv.2
    clear hSv
    go_simp
    try with_reducible rfl
  try simp only [Act.put, List.setIfInBounds_toArray, List.set_cons_zero, List.set_cons_succ]
  refine wpAnyH_take (i := 10) (oi := { dst := some 44, op := .move (.tmp 8), type := _, pos := _, after := _, guard := _ }) (v := ?_) rfl (by kernel_rfl) (by kernel_rfl) (by kernel_rfl) (fun _ _ _ h => h) (Or.inl ⟨by rfl, ?_⟩) (by assumption) ?_
  rotate_left 1
  · intro v hSv
    have hv1 := hSv.2
    clear hSv
    go_simp
    try with_reducible rfl
  try simp only [Act.put, List.setIfInBounds_toArray, List.set_cons_zero, List.set_cons_succ]
  refine wpAnyH_take (i := 11) (oi := { dst := some 45, op := .slice 22 (.tmp 43) (some (.tmp 44)) none none, type := _, pos := _, after := _, guard := _ }) (v := ?_) rfl (by kernel_rfl) (by kernel_rfl) (by kernel_rfl) (fun _ _ _ h => h) (Or.inl ⟨by rfl, ?_⟩) (by assumption) ?_
  rotate_left 1
  · intro v hSv
    have hv1 := hSv.2
    clear hSv
    go_simp
    try with_reducible rfl
  try simp only [Act.put, List.setIfInBounds_toArray, List.set_cons_zero, List.set_cons_succ]
  refine wpAnyH_take (i := 14) (oi := { dst := some 48, op := .load 26 (.tmp 9), type := _, pos := _, after := _, guard := _ }) (v := ?_) rfl (by kernel_rfl) (by kernel_rfl) (by kernel_rfl) (fun _ _ _ h => h) (Or.inl ⟨by rfl, ?_⟩) (by assumption) ?_
  rotate_left 1
  · intro v hSv
    have hv1 := hSv.2
    clear hSv
    go_simp
    try with_reducible rfl
  try simp only [Act.put, List.setIfInBounds_toArray, List.set_cons_zero, List.set_cons_succ]
  refine wpAnyH_ready (rs := [12]) (by kernel_rfl) (by simp) ?_
  refine AllReadyH.cons (o := { dst := some 46, op := .buildSlice 35 3 #[(0, .tmp 38), (1, .tmp 42), (2, .tmp 45)], type := _, pos := _, after := _, guard := _ }) rfl (fun K hK => ?_) AllReadyH.nil
  go_simp
  refine hK.out _ _ ⟨ba hb1 _, LD.out _ (ba hb1 _)⟩ (fun hHeld => ?_)
  clear hK K
  try simp only [Act.put, List.setIfInBounds_toArray, List.set_cons_zero, List.set_cons_succ]
  refine wpAnyH_ready (rs := [13]) (by kernel_rfl) (by simp) ?_
  refine AllReadyH.cons (o := { dst := some 47, op := .call _, type := _, pos := _, after := _, guard := _ }) rfl (fun K hK => ?_) AllReadyH.nil
  go_simp
  refine (join_l _ _ _ s1 l _ HS1.out h (by decide) (J1.out _ hb1) (VV.out _ (ba hb1 _))).mono ?_
  rintro e y2 ⟨rfl, hb⟩
  have hb2 : Below X.heap.size X y2 := (ba hb1 _).trans (hb.mono (ba hb1 _).size)
  clear hb
  go_wp2_with fail
  refine hK.out _ _ ⟨hb2, LD.out _ (hb2)⟩ (fun hHeld => ?_)
  clear hK K
  try simp only [Act.put, List.setIfInBounds_toArray, List.set_cons_zero, List.set_cons_succ]
  refine wpAnyH_take (i := 15) (oi := { dst := some 49, op := .binOp .eql 26 (.tmp 47) (.tmp 48) 26, type := _, pos := _, after := _, guard := _ }) (v := ?_) rfl (by kernel_rfl) (by kernel_rfl) (by kernel_rfl) (fun _ _ _ h => h) (Or.inl ⟨by rfl, ?_⟩) (by assumption) ?_
  rotate_left 1
  · intro v hSv
    have hv1 := hSv.2
    clear hSv
    go_simp
    try with_reducible rfl
  try simp only [Act.put, List.setIfInBounds_toArray, List.set_cons_zero, List.set_cons_succ]
  refine wpAnyH_take (i := 16) (oi := { dst := some 50, op := .pick (.tmp 35) (.tmp 49) (.const (.bool false)), type := _, pos := _, after := _, guard := _ }) (v := ?_) rfl (by kernel_rfl) (by kernel_rfl) (by kernel_rfl) (fun _ _ _ h => h) (Or.inl ⟨by rfl, ?_⟩) (by assumption) ?_
  rotate_left 1
  · intro v hSv
    have hv1 := hSv.2
    clear hSv
    go_simp
    try with_reducible rfl
  try simp only [Act.put, List.setIfInBounds_toArray, List.set_cons_zero, List.set_cons_succ]
  refine wpAnyH_take (i := 17) (oi := { dst := some 51, op := .move (.tmp 50), type := _, pos := _, after := _, guard := _ }) (v := ?_) rfl (by kernel_rfl) (by kernel_rfl) (by kernel_rfl) (fun _ _ _ h => h) (Or.inl ⟨by rfl, ?_⟩) (by assumption) ?_
  rotate_left 1
  · intro v hSv
    have hv1 := hSv.2
    clear hSv
    go_simp
    try with_reducible rfl
  try simp only [Act.put, List.setIfInBounds_toArray, List.set_cons_zero, List.set_cons_succ]
  refine wpAnyH_take (i := 18) (oi := { dst := some 52, op := .move (.tmp 0), type := _, pos := _, after := _, guard := _ }) (v := ?_) rfl (by kernel_rfl) (by kernel_rfl) (by kernel_rfl) (fun _ _ _ h => h) (Or.inl ⟨by rfl, ?_⟩) (by assumption) ?_
  rotate_left 1
  · intro v hSv
    have hv1 := hSv.2
    clear hSv
    go_simp
    try with_reducible rfl
  try simp only [Act.put, List.setIfInBounds_toArray, List.set_cons_zero, List.set_cons_succ]
  refine wpAnyH_take (i := 21) (oi := { dst := some 55, op := .load 26 (.tmp 9), type := _, pos := _, after := _, guard := _ }) (v := ?_) rfl (by kernel_rfl) (by kernel_rfl) (by kernel_rfl) (fun _ _ _ h => h) (Or.inl ⟨by rfl, ?_⟩) (by assumption) ?_
  rotate_left 1
  · intro v hSv
    have hv1 := hSv.2
    clear hSv
    go_simp
    try with_reducible rfl
  try simp only [Act.put, List.setIfInBounds_toArray, List.set_cons_zero, List.set_cons_succ]
  refine wpAnyH_ready (rs := [19]) (by kernel_rfl) (by simp) ?_
  refine AllReadyH.cons (o := { dst := some 53, op := .buildSlice 35 1 #[(0, .tmp 52)], type := _, pos := _, after := _, guard := _ }) rfl (fun K hK => ?_) AllReadyH.nil
  go_simp
  refine hK.out _ _ ⟨ba hb2 _, LD.out _ (ba hb2 _)⟩ (fun hHeld => ?_)
  clear hK K
  try simp only [Act.put, List.setIfInBounds_toArray, List.set_cons_zero, List.set_cons_succ]
  refine wpAnyH_ready (rs := [20]) (by kernel_rfl) (by simp) ?_
  refine AllReadyH.cons (o := { dst := some 54, op := .call _, type := _, pos := _, after := _, guard := _ }) rfl (fun K hK => ?_) AllReadyH.nil
  go_simp
  refine (join_l _ _ _ s1 l _ HS1.out h (by decide) (J2.out _ hb2) (VV.out _ (ba hb2 _))).mono ?_
  rintro e y3 ⟨rfl, hb⟩
  have hb3 : Below X.heap.size X y3 := (ba hb2 _).trans (hb.mono (ba hb2 _).size)
  clear hb
  go_wp2_with fail
  refine hK.out _ _ ⟨hb3, LD.out _ (hb3)⟩ (fun hHeld => ?_)
  clear hK K
  try simp only [Act.put, List.setIfInBounds_toArray, List.set_cons_zero, List.set_cons_succ]
  refine wpAnyH_take (i := 22) (oi := { dst := some 56, op := .binOp .eql 26 (.tmp 54) (.tmp 55) 26, type := _, pos := _, after := _, guard := _ }) (v := ?_) rfl (by kernel_rfl) (by kernel_rfl) (by kernel_rfl) (fun _ _ _ h => h) (Or.inl ⟨by rfl, ?_⟩) (by assumption) ?_
  rotate_left 1
  · intro v hSv
    have hv1 := hSv.2
    clear hSv
    go_simp
    try with_reducible rfl
  try simp only [Act.put, List.setIfInBounds_toArray, List.set_cons_zero, List.set_cons_succ]
  refine wpAnyH_take (i := 23) (oi := { dst := some 57, op := .pick (.tmp 51) (.tmp 56) (.const (.bool false)), type := _, pos := _, after := _, guard := _ }) (v := ?_) rfl (by kernel_rfl) (by kernel_rfl) (by kernel_rfl) (fun _ _ _ h => h) (Or.inl ⟨by rfl, ?_⟩) (by assumption) ?_
  rotate_left 1
  · intro v hSv
    have hv1 := hSv.2
    clear hSv
    go_simp
    try with_reducible rfl
  try simp only [Act.put, List.setIfInBounds_toArray, List.set_cons_zero, List.set_cons_succ]
  refine wpAnyH_take (i := 24) (oi := { dst := some 58, op := .move (.tmp 57), type := _, pos := _, after := _, guard := _ }) (v := ?_) rfl (by kernel_rfl) (by kernel_rfl) (by kernel_rfl) (fun _ _ _ h => h) (Or.inl ⟨by rfl, ?_⟩) (by assumption) ?_
  rotate_left 1
  · intro v hSv
    have hv1 := hSv.2
    clear hSv
    go_simp
    try with_reducible rfl
  try simp only [Act.put, List.setIfInBounds_toArray, List.set_cons_zero, List.set_cons_succ]
  refine wpAnyH_take (i := 25) (oi := { dst := some 59, op := .move (.tmp 0), type := _, pos := _, after := _, guard := _ }) (v := ?_) rfl (by kernel_rfl) (by kernel_rfl) (by kernel_rfl) (fun _ _ _ h => h) (Or.inl ⟨by rfl, ?_⟩) (by assumption) ?_
  rotate_left 1
  · intro v hSv
    have hv1 := hSv.2
    clear hSv
    go_simp
    try with_reducible rfl
  try simp only [Act.put, List.setIfInBounds_toArray, List.set_cons_zero, List.set_cons_succ]
  refine wpAnyH_take (i := 28) (oi := { dst := some 62, op := .load 26 (.tmp 9), type := _, pos := _, after := _, guard := _ }) (v := ?_) rfl (by kernel_rfl) (by kernel_rfl) (by kernel_rfl) (fun _ _ _ h => h) (Or.inl ⟨by rfl, ?_⟩) (by assumption) ?_
  rotate_left 1
  · intro v hSv
    have hv1 := hSv.2
    clear hSv
    go_simp
    try with_reducible rfl
  try simp only [Act.put, List.setIfInBounds_toArray, List.set_cons_zero, List.set_cons_succ]
  refine wpAnyH_ready (rs := [26]) (by kernel_rfl) (by simp) ?_
  refine AllReadyH.cons (o := { dst := some 60, op := .buildSlice 35 3 #[(0, .const (.slice none 0 0)), (1, .tmp 59), (2, .const (.slice none 0 0))], type := _, pos := _, after := _, guard := _ }) rfl (fun K hK => ?_) AllReadyH.nil
  go_simp
  refine hK.out _ _ ⟨ba hb3 _, LD.out _ (ba hb3 _)⟩ (fun hHeld => ?_)
  clear hK K
  try simp only [Act.put, List.setIfInBounds_toArray, List.set_cons_zero, List.set_cons_succ]
  refine wpAnyH_ready (rs := [27]) (by kernel_rfl) (by simp) ?_
  refine AllReadyH.cons (o := { dst := some 61, op := .call _, type := _, pos := _, after := _, guard := _ }) rfl (fun K hK => ?_) AllReadyH.nil
  go_simp
  refine (join_l _ _ _ s1 l _ HS1.out h (by decide) (J3.out _ hb3) (VV.out _ (ba hb3 _))).mono ?_
  rintro e y4 ⟨rfl, hb⟩
  have hb4 : Below X.heap.size X y4 := (ba hb3 _).trans (hb.mono (ba hb3 _).size)
  clear hb
  go_wp2_with fail
  refine hK.out _ _ ⟨hb4, LD.out _ (hb4)⟩ (fun hHeld => ?_)
  clear hK K
  try simp only [Act.put, List.setIfInBounds_toArray, List.set_cons_zero, List.set_cons_succ]
  refine wpAnyH_take (i := 29) (oi := { dst := some 63, op := .binOp .eql 26 (.tmp 61) (.tmp 62) 26, type := _, pos := _, after := _, guard := _ }) (v := ?_) rfl (by kernel_rfl) (by kernel_rfl) (by kernel_rfl) (fun _ _ _ h => h) (Or.inl ⟨by rfl, ?_⟩) (by assumption) ?_
  rotate_left 1
  · intro v hSv
    have hv1 := hSv.2
    clear hSv
    go_simp
    try with_reducible rfl
  try simp only [Act.put, List.setIfInBounds_toArray, List.set_cons_zero, List.set_cons_succ]
  refine wpAnyH_take (i := 30) (oi := { dst := some 64, op := .pick (.tmp 58) (.tmp 63) (.const (.bool false)), type := _, pos := _, after := _, guard := _ }) (v := ?_) rfl (by kernel_rfl) (by kernel_rfl) (by kernel_rfl) (fun _ _ _ h => h) (Or.inl ⟨by rfl, ?_⟩) (by assumption) ?_
  rotate_left 1
  · intro v hSv
    have hv1 := hSv.2
    clear hSv
    go_simp
    try with_reducible rfl
  try simp only [Act.put, List.setIfInBounds_toArray, List.set_cons_zero, List.set_cons_succ]
  refine wpAnyH_take (i := 31) (oi := { dst := some 6, op := .assign (.tmp 64), type := _, pos := _, after := _, guard := _ }) (v := ?_) rfl (by kernel_rfl) (by kernel_rfl) (by kernel_rfl) (fun _ _ _ h => h) (Or.inl ⟨by rfl, ?_⟩) (by assumption) ?_
  rotate_left 1
  · intro v hSv
    have hv1 := hSv.2
    clear hSv
    go_simp
    try with_reducible rfl
  try simp only [Act.put, List.setIfInBounds_toArray, List.set_cons_zero, List.set_cons_succ]
  refine wpAnyH_done (by kernel_rfl) ?_ _
  go_wp2_with fail
  go_ret
  exact ⟨rfl, HB3.out.trans (hb4.mono HB3.out.size)⟩
set_option maxHeartbeats 8000000 in
set_option maxRecDepth 100000 in
theorem joins_gt (A : Option Addr) (c : Nat) (l : List UInt8) (i j x0 y0 : Nat) (W : World) (hA : BA W A l) (hc : l.length ≤ c) (hv : Vars W) (h : l.length ≤ 2000) (hi : i ≤ 65535) (hj : j ≤ 65535)
    (hx0 : x0 = i % (l.length + 1)) (hy0 : y0 = j % (l.length + 1)) (hlt : y0 < x0) : Calls Tryd.prog 6 #[.slice A l.length c, .int .u16 (i : Int), .int .u16 (j : Int)] W (Yes W) := by
  have d1 : decide (2000 < l.length) = false := decide_eq_false (by omega)
  have d2 : decide (2000 < (l.length : Int)) = false := decide_eq_false (by omega)
  have HV := Lib.hid hv
  have HA := Lib.hid hA
  have hx1 : x0 ≤ l.length := by rw [hx0]; have := Nat.mod_lt i (show 0 < l.length + 1 by omega); omega
  have hy1 : y0 ≤ l.length := by rw [hy0]; have := Nat.mod_lt j (show 0 < l.length + 1 by omega); omega
  have ex : (i : Int) % ((l.length : Int) + 1) = (x0 : Int) := by rw [hx0]; simp
  have ey : (j : Int) % ((l.length : Int) + 1) = (y0 : Int) := by rw [hy0]; simp
  have w1 : IntKind.i64.wrap ((l.length : Int) + 1) = (l.length : Int) + 1 := IntWalk.i64_in _ (by omega)
  have dz : (((l.length : Int) + 1) == 0) = false := by rw [beq_eq_false_iff_ne]; omega
  have l1 : decide (y0 < x0) = true := decide_eq_true hlt
  have l2 : decide (x0 < y0) = false := decide_eq_false (by omega)
  clear hv hA hx0 hy0
  go_enter Tryd.func6, Tryd.ntmps6
  go_wp2_with fail
  refine wp_region_quiet_lit (by kernel_rfl) (by kernel_rfl) ?_
  repeat (go_big_quiet_step (fail))
  refine wpQuiet_nil ?_
  rintro _ ⟨nq, rfl⟩
  clear w1 dz
  go_wp2_with fail
  clear ex ey
  have HBq : Hid (Below W.heap.size W (W.drewN nq)) := below_drewN (Below.refl _ _) nq
  refine (rsum_c A c l (W.drewN nq) (HA.out.below HBq.out) (by omega)).mono ?_
  rintro e w2 ⟨rfl, hb2⟩
  have HB2 : Hid (Below W.heap.size W w2) := HBq.out.trans hb2
  obtain ⟨s1, hs1⟩ : ∃ s, s = sumL l := ⟨_, rfl⟩
  rw [← hs1]
  have HS1 := Lib.hid hs1
  have st0 := stA_new (t := 26) w2 (bA z26) (bA s1) (by rw [bA_size, hs1, sumL_len]; exact info26) (by rw [bA_size, bA_size, hs1, sumL_len]; rfl) (bA_one _)
  clear hb2 hs1
  go_wp2_with fail
  obtain ⟨X, hX⟩ : ∃ X, X = w2.alloc (.cells (bA s1) 26) := ⟨_, rfl⟩
  have h1 : X.heap[w2.heap.size]? = some (.cells (bA s1) 26 (0, 0)) := by rw [hX]; exact heap_alloc_new w2 _
  have HB3 : Hid (Below W.heap.size W X) := by show Below _ _ _; rw [hX]; exact HB2.out.alloc HB2.out.size _
  rw [← hX]
  have LD : Hid (∀ w', Below X.heap.size X w' → ldA 26 w' (.pointer (some ⟨w2.heap.size, 0, none⟩)) = .ok (.value (.agg (bA s1))) w') := fun w' hb =>
    ldA_row (t' := 26) (fr := (0, 0)) (by rw [hb.block _ (lt_of_heap h1)]; exact h1) Tryd.underlying26 (by rw [bA_size, HS1.out, sumL_len]; exact info26)
  have VV : Hid (∀ w', Below X.heap.size X w' → Vars w') := fun w' hb => (HV.out.below HB3.out).below hb
  have BB : Hid (∀ w', Below X.heap.size X w' → BA w' A l) := fun w' hb => (HA.out.below HB3.out).below hb
  have hq : ∀ w, (Op.equalIn 10000 26 (.agg (bA s1)) (.agg (bA s1))).run Tryd.prog w = .ok true w := fun w => eq26 s1 (by rw [HS1.out, sumL_len]) w
  have k1 := fun w => cut_h A l.length c y0 (by omega) w
  have k2 := fun w => cut_lh A l.length c y0 x0 (by omega) (by omega) w
  have k3 := fun w => cut_l A l.length c x0 (by omega) w
  have J1 : Hid (∀ w', Below X.heap.size X w' → ∃ ls : List Pc, ls.length = 3 ∧ SL (w'.alloc (.cells #[.slice A y0 c, .slice (cutA A c y0) (x0 - y0) (c - y0), .slice (cutA A c x0) (l.length - x0) (c - x0)] 22)) (some ⟨w'.heap.size, 0, none⟩) ls ∧ catAll ls = l) := fun w' hb => ⟨_, rfl, sl_cuts (BB.out w' hb) hc y0 x0 (by omega) (by omega), cat_cuts A l c y0 x0 (by omega)⟩
  have J2 : Hid (∀ w', Below X.heap.size X w' → ∃ ls : List Pc, ls.length = 1 ∧ SL (w'.alloc (.cells #[.slice A l.length c] 22)) (some ⟨w'.heap.size, 0, none⟩) ls ∧ catAll ls = l) := fun w' hb => ⟨_, rfl, sl_one (BB.out w' hb) hc 22, by simp [catAll]⟩
  have J3 : Hid (∀ w', Below X.heap.size X w' → ∃ ls : List Pc, ls.length = 3 ∧ SL (w'.alloc (.cells #[.slice none 0 0, .slice A l.length c, .slice none 0 0] 22)) (some ⟨w'.heap.size, 0, none⟩) ls ∧ catAll ls = l) := fun w' hb => ⟨_, rfl, sl_mid (BB.out w' hb) hc, by simp [catAll]⟩
  have hb0 : Below X.heap.size X X := Below.refl _ _
  clear hX h1 st0
  refine wp_region_held_drew (S := fun w' => Below X.heap.size X w' ∧ ldA 26 w' (.pointer (some ⟨w2.heap.size, 0, none⟩)) = .ok (.value (.agg (bA s1))) w') (by kernel_rfl) ⟨hb0.drew, LD.out _ hb0.drew⟩ (fun hHeld => ?_)
  refine wpAnyH_ready (rs := [0]) (by kernel_rfl) (by simp) ?_
  refine AllReadyH.cons (o := { dst := some 34, op := .call _, type := _, pos := _, after := _, guard := _ }) rfl (fun K hK => ?_) AllReadyH.nil
  go_simp
  refine (alive_c _ (VV.out _ hb0.drew)).mono ?_
  rintro e y1 ⟨rfl, hb⟩
  have hb1 : Below X.heap.size X y1 := hb0.drew.trans (hb.mono (Nat.le_refl _))
  clear hb
  go_wp2_with fail
  refine hK.out _ _ ⟨hb1, LD.out _ (hb1)⟩ (fun hHeld => ?_)
  clear hK K
  try simp only [Act.put, List.setIfInBounds_toArray, List.set_cons_zero, List.set_cons_succ]
  refine wpAnyH_take (i := 1) (oi := { dst := some 35, op := .move (.tmp 34), type := _, pos := _, after := _, guard := _ }) (v := ?_) rfl (by kernel_rfl) (by kernel_rfl) (by kernel_rfl) (fun _ _ _ h => h) (Or.inl ⟨by rfl, ?_⟩) (by assumption) ?_
  rotate_left 1
  · intro v hSv
    have hv1 := hSv.2
    clear hSv
    go_simp
    try with_reducible rfl
  try simp only [Act.put, List.setIfInBounds_toArray, List.set_cons_zero, List.set_cons_succ]
  refine wpAnyH_take (i := 2) (oi := { dst := some 36, op := .move (.tmp 0), type := _, pos := _, after := _, guard := _ }) (v := ?_) rfl (by kernel_rfl) (by kernel_rfl) (by kernel_rfl) (fun _ _ _ h => h) (Or.inl ⟨by rfl, ?_⟩) (by assumption) ?_
  rotate_left 1
  · intro v hSv
    have hv1 := hSv.2
    clear hSv
    go_simp
    try with_reducible rfl
  try simp only [Act.put, List.setIfInBounds_toArray, List.set_cons_zero, List.set_cons_succ]
  refine wpAnyH_take (i := 3) (oi := { dst := some 37, op := .move (.tmp 7), type := _, pos := _, after := _, guard := _ }) (v := ?_) rfl (by kernel_rfl) (by kernel_rfl) (by kernel_rfl) (fun _ _ _ h => h) (Or.inl ⟨by rfl, ?_⟩) (by assumption) ?_
  rotate_left 1
  · intro v hSv
    have hv1 := hSv.2
    clear hSv
    go_simp
    try with_reducible rfl
  try simp only [Act.put, List.setIfInBounds_toArray, List.set_cons_zero, List.set_cons_succ]
  refine wpAnyH_take (i := 4) (oi := { dst := some 38, op := .slice 22 (.tmp 36) none (some (.tmp 37)) none, type := _, pos := _, after := _, guard := _ }) (v := ?_) rfl (by kernel_rfl) (by kernel_rfl) (by kernel_rfl) (fun _ _ _ h => h) (Or.inl ⟨by rfl, ?_⟩) (by assumption) ?_
  rotate_left 1
  · intro v hSv
    have hv1 := hSv.2
    clear hSv
    go_simp
    try with_reducible rfl
  try simp only [Act.put, List.setIfInBounds_toArray, List.set_cons_zero, List.set_cons_succ]
  refine wpAnyH_take (i := 5) (oi := { dst := some 39, op := .move (.tmp 0), type := _, pos := _, after := _, guard := _ }) (v := ?_) rfl (by kernel_rfl) (by kernel_rfl) (by kernel_rfl) (fun _ _ _ h => h) (Or.inl ⟨by rfl, ?_⟩) (by assumption) ?_
  rotate_left 1
  · intro v hSv
    have hv1 := hSv.2
    clear hSv
    go_simp
    try with_reducible rfl
  try simp only [Act.put, List.setIfInBounds_toArray, List.set_cons_zero, List.set_cons_succ]
  refine wpAnyH_take (i := 6) (oi := { dst := some 40, op := .move (.tmp 7), type := _, pos := _, after := _, guard := _ }) (v := ?_) rfl (by kernel_rfl) (by kernel_rfl) (by kernel_rfl) (fun _ _ _ h => h) (Or.inl ⟨by rfl, ?_⟩) (by assumption) ?_
  rotate_left 1
  · intro v hSv
    have hv1 := hSv.2
    clear hSv
    go_simp
    try with_reducible rfl
  try simp only [Act.put, List.setIfInBounds_toArray, List.set_cons_zero, List.set_cons_succ]
  refine wpAnyH_take (i := 7) (oi := { dst := some 41, op := .move (.tmp 8), type := _, pos := _, after := _, guard := _ }) (v := ?_) rfl (by kernel_rfl) (by kernel_rfl) (by kernel_rfl) (fun _ _ _ h => h) (Or.inl ⟨by rfl, ?_⟩) (by assumption) ?_
  rotate_left 1
  · intro v hSv
    have hv1 := hSv.2
    clear hSv
    go_simp
    try with_reducible rfl
  try simp only [Act.put, List.setIfInBounds_toArray, List.set_cons_zero, List.set_cons_succ]
  refine wpAnyH_take (i := 8) (oi := { dst := some 42, op := .slice 22 (.tmp 39) (some (.tmp 40)) (some (.tmp 41)) none, type := _, pos := _, after := _, guard := _ }) (v := ?_) rfl (by kernel_rfl) (by kernel_rfl) (by kernel_rfl) (fun _ _ _ h => h) (Or.inl ⟨by rfl, ?_⟩) (by assumption) ?_
  rotate_left 1
  · intro v hSv
    have hv1 := hSv.2
    clear hSv
    go_simp
    try with_reducible rfl
  try simp only [Act.put, List.setIfInBounds_toArray, List.set_cons_zero, List.set_cons_succ]
  refine wpAnyH_take (i := 9) (oi := { dst := some 43, op := .move (.tmp 0), type := _, pos := _, after := _, guard := _ }) (v := ?_) rfl (by kernel_rfl) (by kernel_rfl) (by kernel_rfl) (fun _ _ _ h => h) (Or.inl ⟨by rfl, ?_⟩) (by assumption) ?_
  rotate_left 1
  · intro v hSv
    have hv1 := hSv.2
    clear hSv
    go_simp
    try with_reducible rfl
  try simp only [Act.put, List.setIfInBounds_toArray, List.set_cons_zero, List.set_cons_succ]
  refine wpAnyH_take (i := 10) (oi := { dst := some 44, op := .move (.tmp 8), type := _, pos := _, after := _, guard := _ }) (v := ?_) rfl (by kernel_rfl) (by kernel_rfl) (by kernel_rfl) (fun _ _ _ h => h) (Or.inl ⟨by rfl, ?_⟩) (by assumption) ?_
  rotate_left 1
  · intro v hSv
    have hv1 := hSv.2
    clear hSv
    go_simp
    try with_reducible rfl
  try simp only [Act.put, List.setIfInBounds_toArray, List.set_cons_zero, List.set_cons_succ]
  refine wpAnyH_take (i := 11) (oi := { dst := some 45, op := .slice 22 (.tmp 43) (some (.tmp 44)) none none, type := _, pos := _, after := _, guard := _ }) (v := ?_) rfl (by kernel_rfl) (by kernel_rfl) (by kernel_rfl) (fun _ _ _ h => h) (Or.inl ⟨by rfl, ?_⟩) (by assumption) ?_
  rotate_left 1
  · intro v hSv
    have hv1 := hSv.2
    clear hSv
    go_simp
    try with_reducible rfl
  try simp only [Act.put, List.setIfInBounds_toArray, List.set_cons_zero, List.set_cons_succ]
  refine wpAnyH_take (i := 14) (oi := { dst := some 48, op := .load 26 (.tmp 9), type := _, pos := _, after := _, guard := _ }) (v := ?_) rfl (by kernel_rfl) (by kernel_rfl) (by kernel_rfl) (fun _ _ _ h => h) (Or.inl ⟨by rfl, ?_⟩) (by assumption) ?_
  rotate_left 1
  · intro v hSv
    have hv1 := hSv.2
    clear hSv
    go_simp
    try with_reducible rfl
  try simp only [Act.put, List.setIfInBounds_toArray, List.set_cons_zero, List.set_cons_succ]
  refine wpAnyH_ready (rs := [12]) (by kernel_rfl) (by simp) ?_
  refine AllReadyH.cons (o := { dst := some 46, op := .buildSlice 35 3 #[(0, .tmp 38), (1, .tmp 42), (2, .tmp 45)], type := _, pos := _, after := _, guard := _ }) rfl (fun K hK => ?_) AllReadyH.nil
  go_simp
  refine hK.out _ _ ⟨ba hb1 _, LD.out _ (ba hb1 _)⟩ (fun hHeld => ?_)
  clear hK K
  try simp only [Act.put, List.setIfInBounds_toArray, List.set_cons_zero, List.set_cons_succ]
  refine wpAnyH_ready (rs := [13]) (by kernel_rfl) (by simp) ?_
  refine AllReadyH.cons (o := { dst := some 47, op := .call _, type := _, pos := _, after := _, guard := _ }) rfl (fun K hK => ?_) AllReadyH.nil
  go_simp
  refine (join_l _ _ _ s1 l _ HS1.out h (by decide) (J1.out _ hb1) (VV.out _ (ba hb1 _))).mono ?_
  rintro e y2 ⟨rfl, hb⟩
  have hb2 : Below X.heap.size X y2 := (ba hb1 _).trans (hb.mono (ba hb1 _).size)
  clear hb
  go_wp2_with fail
  refine hK.out _ _ ⟨hb2, LD.out _ (hb2)⟩ (fun hHeld => ?_)
  clear hK K
  try simp only [Act.put, List.setIfInBounds_toArray, List.set_cons_zero, List.set_cons_succ]
  refine wpAnyH_take (i := 15) (oi := { dst := some 49, op := .binOp .eql 26 (.tmp 47) (.tmp 48) 26, type := _, pos := _, after := _, guard := _ }) (v := ?_) rfl (by kernel_rfl) (by kernel_rfl) (by kernel_rfl) (fun _ _ _ h => h) (Or.inl ⟨by rfl, ?_⟩) (by assumption) ?_
  rotate_left 1
  · intro v hSv
    have hv1 := hSv.2
    clear hSv
    go_simp
    try with_reducible rfl
  try simp only [Act.put, List.setIfInBounds_toArray, List.set_cons_zero, List.set_cons_succ]
  refine wpAnyH_take (i := 16) (oi := { dst := some 50, op := .pick (.tmp 35) (.tmp 49) (.const (.bool false)), type := _, pos := _, after := _, guard := _ }) (v := ?_) rfl (by kernel_rfl) (by kernel_rfl) (by kernel_rfl) (fun _ _ _ h => h) (Or.inl ⟨by rfl, ?_⟩) (by assumption) ?_
  rotate_left 1
  · intro v hSv
    have hv1 := hSv.2
    clear hSv
    go_simp
    try with_reducible rfl
  try simp only [Act.put, List.setIfInBounds_toArray, List.set_cons_zero, List.set_cons_succ]
  refine wpAnyH_take (i := 17) (oi := { dst := some 51, op := .move (.tmp 50), type := _, pos := _, after := _, guard := _ }) (v := ?_) rfl (by kernel_rfl) (by kernel_rfl) (by kernel_rfl) (fun _ _ _ h => h) (Or.inl ⟨by rfl, ?_⟩) (by assumption) ?_
  rotate_left 1
  · intro v hSv
    have hv1 := hSv.2
    clear hSv
    go_simp
    try with_reducible rfl
  try simp only [Act.put, List.setIfInBounds_toArray, List.set_cons_zero, List.set_cons_succ]
  refine wpAnyH_take (i := 18) (oi := { dst := some 52, op := .move (.tmp 0), type := _, pos := _, after := _, guard := _ }) (v := ?_) rfl (by kernel_rfl) (by kernel_rfl) (by kernel_rfl) (fun _ _ _ h => h) (Or.inl ⟨by rfl, ?_⟩) (by assumption) ?_
  rotate_left 1
  · intro v hSv
    have hv1 := hSv.2
    clear hSv
    go_simp
    try with_reducible rfl
  try simp only [Act.put, List.setIfInBounds_toArray, List.set_cons_zero, List.set_cons_succ]
  refine wpAnyH_take (i := 21) (oi := { dst := some 55, op := .load 26 (.tmp 9), type := _, pos := _, after := _, guard := _ }) (v := ?_) rfl (by kernel_rfl) (by kernel_rfl) (by kernel_rfl) (fun _ _ _ h => h) (Or.inl ⟨by rfl, ?_⟩) (by assumption) ?_
  rotate_left 1
  · intro v hSv
    have hv1 := hSv.2
    clear hSv
    go_simp
    try with_reducible rfl
  try simp only [Act.put, List.setIfInBounds_toArray, List.set_cons_zero, List.set_cons_succ]
  refine wpAnyH_ready (rs := [19]) (by kernel_rfl) (by simp) ?_
  refine AllReadyH.cons (o := { dst := some 53, op := .buildSlice 35 1 #[(0, .tmp 52)], type := _, pos := _, after := _, guard := _ }) rfl (fun K hK => ?_) AllReadyH.nil
  go_simp
  refine hK.out _ _ ⟨ba hb2 _, LD.out _ (ba hb2 _)⟩ (fun hHeld => ?_)
  clear hK K
  try simp only [Act.put, List.setIfInBounds_toArray, List.set_cons_zero, List.set_cons_succ]
  refine wpAnyH_ready (rs := [20]) (by kernel_rfl) (by simp) ?_
  refine AllReadyH.cons (o := { dst := some 54, op := .call _, type := _, pos := _, after := _, guard := _ }) rfl (fun K hK => ?_) AllReadyH.nil
  go_simp
  refine (join_l _ _ _ s1 l _ HS1.out h (by decide) (J2.out _ hb2) (VV.out _ (ba hb2 _))).mono ?_
  rintro e y3 ⟨rfl, hb⟩
  have hb3 : Below X.heap.size X y3 := (ba hb2 _).trans (hb.mono (ba hb2 _).size)
  clear hb
  go_wp2_with fail
  refine hK.out _ _ ⟨hb3, LD.out _ (hb3)⟩ (fun hHeld => ?_)
  clear hK K
  try simp only [Act.put, List.setIfInBounds_toArray, List.set_cons_zero, List.set_cons_succ]
  refine wpAnyH_take (i := 22) (oi := { dst := some 56, op := .binOp .eql 26 (.tmp 54) (.tmp 55) 26, type := _, pos := _, after := _, guard := _ }) (v := ?_) rfl (by kernel_rfl) (by kernel_rfl) (by kernel_rfl) (fun _ _ _ h => h) (Or.inl ⟨by rfl, ?_⟩) (by assumption) ?_
  rotate_left 1
  · intro v hSv
    have hv1 := hSv.2
    clear hSv
    go_simp
    try with_reducible rfl
  try simp only [Act.put, List.setIfInBounds_toArray, List.set_cons_zero, List.set_cons_succ]
  refine wpAnyH_take (i := 23) (oi := { dst := some 57, op := .pick (.tmp 51) (.tmp 56) (.const (.bool false)), type := _, pos := _, after := _, guard := _ }) (v := ?_) rfl (by kernel_rfl) (by kernel_rfl) (by kernel_rfl) (fun _ _ _ h => h) (Or.inl ⟨by rfl, ?_⟩) (by assumption) ?_
  rotate_left 1
  · intro v hSv
    have hv1 := hSv.2
    clear hSv
    go_simp
    try with_reducible rfl
  try simp only [Act.put, List.setIfInBounds_toArray, List.set_cons_zero, List.set_cons_succ]
  refine wpAnyH_take (i := 24) (oi := { dst := some 58, op := .move (.tmp 57), type := _, pos := _, after := _, guard := _ }) (v := ?_) rfl (by kernel_rfl) (by kernel_rfl) (by kernel_rfl) (fun _ _ _ h => h) (Or.inl ⟨by rfl, ?_⟩) (by assumption) ?_
  rotate_left 1
  · intro v hSv
    have hv1 := hSv.2
    clear hSv
    go_simp
    try with_reducible rfl
  try simp only [Act.put, List.setIfInBounds_toArray, List.set_cons_zero, List.set_cons_succ]
  refine wpAnyH_take (i := 25) (oi := { dst := some 59, op := .move (.tmp 0), type := _, pos := _, after := _, guard := _ }) (v := ?_) rfl (by kernel_rfl) (by kernel_rfl) (by kernel_rfl) (fun _ _ _ h => h) (Or.inl ⟨by rfl, ?_⟩) (by assumption) ?_
  rotate_left 1
  · intro v hSv
    have hv1 := hSv.2
    clear hSv
    go_simp
    try with_reducible rfl
  try simp only [Act.put, List.setIfInBounds_toArray, List.set_cons_zero, List.set_cons_succ]
  refine wpAnyH_take (i := 28) (oi := { dst := some 62, op := .load 26 (.tmp 9), type := _, pos := _, after := _, guard := _ }) (v := ?_) rfl (by kernel_rfl) (by kernel_rfl) (by kernel_rfl) (fun _ _ _ h => h) (Or.inl ⟨by rfl, ?_⟩) (by assumption) ?_
  rotate_left 1
  · intro v hSv
    have hv1 := hSv.2
    clear hSv
    go_simp
    try with_reducible rfl
  try simp only [Act.put, List.setIfInBounds_toArray, List.set_cons_zero, List.set_cons_succ]
  refine wpAnyH_ready (rs := [26]) (by kernel_rfl) (by simp) ?_
  refine AllReadyH.cons (o := { dst := some 60, op := .buildSlice 35 3 #[(0, .const (.slice none 0 0)), (1, .tmp 59), (2, .const (.slice none 0 0))], type := _, pos := _, after := _, guard := _ }) rfl (fun K hK => ?_) AllReadyH.nil
  go_simp
  refine hK.out _ _ ⟨ba hb3 _, LD.out _ (ba hb3 _)⟩ (fun hHeld => ?_)
  clear hK K
  try simp only [Act.put, List.setIfInBounds_toArray, List.set_cons_zero, List.set_cons_succ]
  refine wpAnyH_ready (rs := [27]) (by kernel_rfl) (by simp) ?_
  refine AllReadyH.cons (o := { dst := some 61, op := .call _, type := _, pos := _, after := _, guard := _ }) rfl (fun K hK => ?_) AllReadyH.nil
  go_simp
  refine (join_l _ _ _ s1 l _ HS1.out h (by decide) (J3.out _ hb3) (VV.out _ (ba hb3 _))).mono ?_
  rintro e y4 ⟨rfl, hb⟩
  have hb4 : Below X.heap.size X y4 := (ba hb3 _).trans (hb.mono (ba hb3 _).size)
  clear hb
  go_wp2_with fail
  refine hK.out _ _ ⟨hb4, LD.out _ (hb4)⟩ (fun hHeld => ?_)
  clear hK K
  try simp only [Act.put, List.setIfInBounds_toArray, List.set_cons_zero, List.set_cons_succ]
  refine wpAnyH_take (i := 29) (oi := { dst := some 63, op := .binOp .eql 26 (.tmp 61) (.tmp 62) 26, type := _, pos := _, after := _, guard := _ }) (v := ?_) rfl (by kernel_rfl) (by kernel_rfl) (by kernel_rfl) (fun _ _ _ h => h) (Or.inl ⟨by rfl, ?_⟩) (by assumption) ?_
  rotate_left 1
  · intro v hSv
    have hv1 := hSv.2
    clear hSv
    go_simp
    try with_reducible rfl
  try simp only [Act.put, List.setIfInBounds_toArray, List.set_cons_zero, List.set_cons_succ]
  refine wpAnyH_take (i := 30) (oi := { dst := some 64, op := .pick (.tmp 58) (.tmp 63) (.const (.bool false)), type := _, pos := _, after := _, guard := _ }) (v := ?_) rfl (by kernel_rfl) (by kernel_rfl) (by kernel_rfl) (fun _ _ _ h => h) (Or.inl ⟨by rfl, ?_⟩) (by assumption) ?_
  rotate_left 1
  · intro v hSv
    have hv1 := hSv.2
    clear hSv
    go_simp
    try with_reducible rfl
  try simp only [Act.put, List.setIfInBounds_toArray, List.set_cons_zero, List.set_cons_succ]
  refine wpAnyH_take (i := 31) (oi := { dst := some 6, op := .assign (.tmp 64), type := _, pos := _, after := _, guard := _ }) (v := ?_) rfl (by kernel_rfl) (by kernel_rfl) (by kernel_rfl) (fun _ _ _ h => h) (Or.inl ⟨by rfl, ?_⟩) (by assumption) ?_
  rotate_left 1
  · intro v hSv
    have hv1 := hSv.2
    clear hSv
    go_simp
    try with_reducible rfl
  try simp only [Act.put, List.setIfInBounds_toArray, List.set_cons_zero, List.set_cons_succ]
  refine wpAnyH_done (by kernel_rfl) ?_ _
  go_wp2_with fail
  go_ret
  exact ⟨rfl, HB3.out.trans (hb4.mono HB3.out.size)⟩
set_option maxHeartbeats 8000000 in
set_option maxRecDepth 100000 in
theorem joins_eq (A : Option Addr) (c : Nat) (l : List UInt8) (i j x0 : Nat) (W : World) (hA : BA W A l) (hc : l.length ≤ c) (hv : Vars W) (h : l.length ≤ 2000) (hi : i ≤ 65535) (hj : j ≤ 65535)
    (hx0 : x0 = i % (l.length + 1)) (hy0 : x0 = j % (l.length + 1)) : Calls Tryd.prog 6 #[.slice A l.length c, .int .u16 (i : Int), .int .u16 (j : Int)] W (Yes W) := by
  have d1 : decide (2000 < l.length) = false := decide_eq_false (by omega)
  have d2 : decide (2000 < (l.length : Int)) = false := decide_eq_false (by omega)
  have HV := Lib.hid hv
  have HA := Lib.hid hA
  have hx1 : x0 ≤ l.length := by rw [hx0]; have := Nat.mod_lt i (show 0 < l.length + 1 by omega); omega
  have hy1 : x0 ≤ l.length := by rw [hy0]; have := Nat.mod_lt j (show 0 < l.length + 1 by omega); omega
  have ex : (i : Int) % ((l.length : Int) + 1) = (x0 : Int) := by rw [hx0]; simp
  have ey : (j : Int) % ((l.length : Int) + 1) = (x0 : Int) := by rw [hy0]; simp
  have w1 : IntKind.i64.wrap ((l.length : Int) + 1) = (l.length : Int) + 1 := IntWalk.i64_in _ (by omega)
  have dz : (((l.length : Int) + 1) == 0) = false := by rw [beq_eq_false_iff_ne]; omega
  have l1 : decide (x0 < x0) = false := decide_eq_false (by omega)
  clear hv hA hx0 hy0
  go_enter Tryd.func6, Tryd.ntmps6
  go_wp2_with fail
  refine wp_region_quiet_lit (by kernel_rfl) (by kernel_rfl) ?_
  repeat (go_big_quiet_step (fail))
  refine wpQuiet_nil ?_
  rintro _ ⟨nq, rfl⟩
  clear w1 dz
  go_wp2_with fail
  clear ex ey
  have HBq : Hid (Below W.heap.size W (W.drewN nq)) := below_drewN (Below.refl _ _) nq
  refine (rsum_c A c l (W.drewN nq) (HA.out.below HBq.out) (by omega)).mono ?_
  rintro e w2 ⟨rfl, hb2⟩
  have HB2 : Hid (Below W.heap.size W w2) := HBq.out.trans hb2
  obtain ⟨s1, hs1⟩ : ∃ s, s = sumL l := ⟨_, rfl⟩
  rw [← hs1]
  have HS1 := Lib.hid hs1
  have st0 := stA_new (t := 26) w2 (bA z26) (bA s1) (by rw [bA_size, hs1, sumL_len]; exact info26) (by rw [bA_size, bA_size, hs1, sumL_len]; rfl) (bA_one _)
  clear hb2 hs1
  go_wp2_with fail
  obtain ⟨X, hX⟩ : ∃ X, X = w2.alloc (.cells (bA s1) 26) := ⟨_, rfl⟩
  have h1 : X.heap[w2.heap.size]? = some (.cells (bA s1) 26 (0, 0)) := by rw [hX]; exact heap_alloc_new w2 _
  have HB3 : Hid (Below W.heap.size W X) := by show Below _ _ _; rw [hX]; exact HB2.out.alloc HB2.out.size _
  rw [← hX]
  have LD : Hid (∀ w', Below X.heap.size X w' → ldA 26 w' (.pointer (some ⟨w2.heap.size, 0, none⟩)) = .ok (.value (.agg (bA s1))) w') := fun w' hb =>
    ldA_row (t' := 26) (fr := (0, 0)) (by rw [hb.block _ (lt_of_heap h1)]; exact h1) Tryd.underlying26 (by rw [bA_size, HS1.out, sumL_len]; exact info26)
  have VV : Hid (∀ w', Below X.heap.size X w' → Vars w') := fun w' hb => (HV.out.below HB3.out).below hb
  have BB : Hid (∀ w', Below X.heap.size X w' → BA w' A l) := fun w' hb => (HA.out.below HB3.out).below hb
  have hq : ∀ w, (Op.equalIn 10000 26 (.agg (bA s1)) (.agg (bA s1))).run Tryd.prog w = .ok true w := fun w => eq26 s1 (by rw [HS1.out, sumL_len]) w
  have k1 := fun w => cut_h A l.length c x0 (by omega) w
  have k2 := fun w => cut_lh A l.length c x0 x0 (by omega) (by omega) w
  have k3 := fun w => cut_l A l.length c x0 (by omega) w
  have J1 : Hid (∀ w', Below X.heap.size X w' → ∃ ls : List Pc, ls.length = 3 ∧ SL (w'.alloc (.cells #[.slice A x0 c, .slice (cutA A c x0) (x0 - x0) (c - x0), .slice (cutA A c x0) (l.length - x0) (c - x0)] 22)) (some ⟨w'.heap.size, 0, none⟩) ls ∧ catAll ls = l) := fun w' hb => ⟨_, rfl, sl_cuts (BB.out w' hb) hc x0 x0 (by omega) (by omega), cat_cuts A l c x0 x0 (by omega)⟩
  rw [Nat.sub_self] at J1
  have J2 : Hid (∀ w', Below X.heap.size X w' → ∃ ls : List Pc, ls.length = 1 ∧ SL (w'.alloc (.cells #[.slice A l.length c] 22)) (some ⟨w'.heap.size, 0, none⟩) ls ∧ catAll ls = l) := fun w' hb => ⟨_, rfl, sl_one (BB.out w' hb) hc 22, by simp [catAll]⟩
  have J3 : Hid (∀ w', Below X.heap.size X w' → ∃ ls : List Pc, ls.length = 3 ∧ SL (w'.alloc (.cells #[.slice none 0 0, .slice A l.length c, .slice none 0 0] 22)) (some ⟨w'.heap.size, 0, none⟩) ls ∧ catAll ls = l) := fun w' hb => ⟨_, rfl, sl_mid (BB.out w' hb) hc, by simp [catAll]⟩
  have hb0 : Below X.heap.size X X := Below.refl _ _
  clear hX h1 st0
  refine wp_region_held_drew (S := fun w' => Below X.heap.size X w' ∧ ldA 26 w' (.pointer (some ⟨w2.heap.size, 0, none⟩)) = .ok (.value (.agg (bA s1))) w') (by kernel_rfl) ⟨hb0.drew, LD.out _ hb0.drew⟩ (fun hHeld => ?_)
  refine wpAnyH_ready (rs := [0]) (by kernel_rfl) (by simp) ?_
  refine AllReadyH.cons (o := { dst := some 34, op := .call _, type := _, pos := _, after := _, guard := _ }) rfl (fun K hK => ?_) AllReadyH.nil
  go_simp
  refine (alive_c _ (VV.out _ hb0.drew)).mono ?_
  rintro e y1 ⟨rfl, hb⟩
  have hb1 : Below X.heap.size X y1 := hb0.drew.trans (hb.mono (Nat.le_refl _))
  clear hb
  go_wp2_with fail
  refine hK.out _ _ ⟨hb1, LD.out _ (hb1)⟩ (fun hHeld => ?_)
  clear hK K
  try simp only [Act.put, List.setIfInBounds_toArray, List.set_cons_zero, List.set_cons_succ]
  refine wpAnyH_take (i := 1) (oi := { dst := some 35, op := .move (.tmp 34), type := _, pos := _, after := _, guard := _ }) (v := ?_) rfl (by kernel_rfl) (by kernel_rfl) (by kernel_rfl) (fun _ _ _ h => h) (Or.inl ⟨by rfl, ?_⟩) (by assumption) ?_
  rotate_left 1
  · intro v hSv
    have hv1 := hSv.2
    clear hSv
    go_simp
    try with_reducible rfl
  try simp only [Act.put, List.setIfInBounds_toArray, List.set_cons_zero, List.set_cons_succ]
  refine wpAnyH_take (i := 2) (oi := { dst := some 36, op := .move (.tmp 0), type := _, pos := _, after := _, guard := _ }) (v := ?_) rfl (by kernel_rfl) (by kernel_rfl) (by kernel_rfl) (fun _ _ _ h => h) (Or.inl ⟨by rfl, ?_⟩) (by assumption) ?_
  rotate_left 1
  · intro v hSv
    have hv1 := hSv.2
    clear hSv
    go_simp
    try with_reducible rfl
  try simp only [Act.put, List.setIfInBounds_toArray, List.set_cons_zero, List.set_cons_succ]
  refine wpAnyH_take (i := 3) (oi := { dst := some 37, op := .move (.tmp 7), type := _, pos := _, after := _, guard := _ }) (v := ?_) rfl (by kernel_rfl) (by kernel_rfl) (by kernel_rfl) (fun _ _ _ h => h) (Or.inl ⟨by rfl, ?_⟩) (by assumption) ?_
  rotate_left 1
  · intro v hSv
    have hv1 := hSv.2
    clear hSv
    go_simp
    try with_reducible rfl
  try simp only [Act.put, List.setIfInBounds_toArray, List.set_cons_zero, List.set_cons_succ]
  refine wpAnyH_take (i := 4) (oi := { dst := some 38, op := .slice 22 (.tmp 36) none (some (.tmp 37)) none, type := _, pos := _, after := _, guard := _ }) (v := ?_) rfl (by kernel_rfl) (by kernel_rfl) (by kernel_rfl) (fun _ _ _ h => h) (Or.inl ⟨by rfl, ?_⟩) (by assumption) ?_
  rotate_left 1
  · intro v hSv
    have hv1 := hSv.2
    clear hSv
    go_simp
    try with_reducible rfl
  try simp only [Act.put, List.setIfInBounds_toArray, List.set_cons_zero, List.set_cons_succ]
  refine wpAnyH_take (i := 5) (oi := { dst := some 39, op := .move (.tmp 0), type := _, pos := _, after := _, guard := _ }) (v := ?_) rfl (by kernel_rfl) (by kernel_rfl) (by kernel_rfl) (fun _ _ _ h => h) (Or.inl ⟨by rfl, ?_⟩) (by assumption) ?_
  rotate_left 1
  · intro v hSv
    have hv1 := hSv.2
    clear hSv
    go_simp
    try with_reducible rfl
  try simp only [Act.put, List.setIfInBounds_toArray, List.set_cons_zero, List.set_cons_succ]
  refine wpAnyH_take (i := 6) (oi := { dst := some 40, op := .move (.tmp 7), type := _, pos := _, after := _, guard := _ }) (v := ?_) rfl (by kernel_rfl) (by kernel_rfl) (by kernel_rfl) (fun _ _ _ h => h) (Or.inl ⟨by rfl, ?_⟩) (by assumption) ?_
  rotate_left 1
  · intro v hSv
    have hv1 := hSv.2
    clear hSv
    go_simp
    try with_reducible rfl
  try simp only [Act.put, List.setIfInBounds_toArray, List.set_cons_zero, List.set_cons_succ]
  refine wpAnyH_take (i := 7) (oi := { dst := some 41, op := .move (.tmp 8), type := _, pos := _, after := _, guard := _ }) (v := ?_) rfl (by kernel_rfl) (by kernel_rfl) (by kernel_rfl) (fun _ _ _ h => h) (Or.inl ⟨by rfl, ?_⟩) (by assumption) ?_
  rotate_left 1
  · intro v hSv
    have hv1 := hSv.2
    clear hSv
    go_simp
    try with_reducible rfl
  try simp only [Act.put, List.setIfInBounds_toArray, List.set_cons_zero, List.set_cons_succ]
  refine wpAnyH_take (i := 8) (oi := { dst := some 42, op := .slice 22 (.tmp 39) (some (.tmp 40)) (some (.tmp 41)) none, type := _, pos := _, after := _, guard := _ }) (v := ?_) rfl (by kernel_rfl) (by kernel_rfl) (by kernel_rfl) (fun _ _ _ h => h) (Or.inl ⟨by rfl, ?_⟩) (by assumption) ?_
  rotate_left 1
  · intro v hSv
    have hv1 := hSv.2
    clear hSv
    go_simp
    try with_reducible rfl
  try simp only [Act.put, List.setIfInBounds_toArray, List.set_cons_zero, List.set_cons_succ]
  refine wpAnyH_take (i := 9) (oi := { dst := some 43, op := .move (.tmp 0), type := _, pos := _, after := _, guard := _ }) (v := ?_) rfl (by kernel_rfl) (by kernel_rfl) (by kernel_rfl) (fun _ _ _ h => h) (Or.inl ⟨by rfl, ?_⟩) (by assumption) ?_
  rotate_left 1
  · intro v hSv
    have hv1 := hSv.2
    clear hSv
    go_simp
    try with_reducible rfl
  try simp only [Act.put, List.setIfInBounds_toArray, List.set_cons_zero, List.set_cons_succ]
  refine wpAnyH_take (i := 10) (oi := { dst := some 44, op := .move (.tmp 8), type := _, pos := _, after := _, guard := _ }) (v := ?_) rfl (by kernel_rfl) (by kernel_rfl) (by kernel_rfl) (fun _ _ _ h => h) (Or.inl ⟨by rfl, ?_⟩) (by assumption) ?_
  rotate_left 1
  · intro v hSv
    have hv1 := hSv.2
    clear hSv
    go_simp
    try with_reducible rfl
  try simp only [Act.put, List.setIfInBounds_toArray, List.set_cons_zero, List.set_cons_succ]
  refine wpAnyH_take (i := 11) (oi := { dst := some 45, op := .slice 22 (.tmp 43) (some (.tmp 44)) none none, type := _, pos := _, after := _, guard := _ }) (v := ?_) rfl (by kernel_rfl) (by kernel_rfl) (by kernel_rfl) (fun _ _ _ h => h) (Or.inl ⟨by rfl, ?_⟩) (by assumption) ?_
  rotate_left 1
  · intro v hSv
    have hv1 := hSv.2
    clear hSv
    go_simp
    try with_reducible rfl
  try simp only [Act.put, List.setIfInBounds_toArray, List.set_cons_zero, List.set_cons_succ]
  refine wpAnyH_take (i := 14) (oi := { dst := some 48, op := .load 26 (.tmp 9), type := _, pos := _, after := _, guard := _ }) (v := ?_) rfl (by kernel_rfl) (by kernel_rfl) (by kernel_rfl) (fun _ _ _ h => h) (Or.inl ⟨by rfl, ?_⟩) (by assumption) ?_
  rotate_left 1
  · intro v hSv
    have hv1 := hSv.2
    clear hSv
    go_simp
    try with_reducible rfl
  try simp only [Act.put, List.setIfInBounds_toArray, List.set_cons_zero, List.set_cons_succ]
  refine wpAnyH_ready (rs := [12]) (by kernel_rfl) (by simp) ?_
  refine AllReadyH.cons (o := { dst := some 46, op := .buildSlice 35 3 #[(0, .tmp 38), (1, .tmp 42), (2, .tmp 45)], type := _, pos := _, after := _, guard := _ }) rfl (fun K hK => ?_) AllReadyH.nil
  go_simp
  refine hK.out _ _ ⟨ba hb1 _, LD.out _ (ba hb1 _)⟩ (fun hHeld => ?_)
  clear hK K
  try simp only [Act.put, List.setIfInBounds_toArray, List.set_cons_zero, List.set_cons_succ]
  refine wpAnyH_ready (rs := [13]) (by kernel_rfl) (by simp) ?_
  refine AllReadyH.cons (o := { dst := some 47, op := .call _, type := _, pos := _, after := _, guard := _ }) rfl (fun K hK => ?_) AllReadyH.nil
  go_simp
  refine (join_l _ _ _ s1 l _ HS1.out h (by decide) (J1.out _ hb1) (VV.out _ (ba hb1 _))).mono ?_
  rintro e y2 ⟨rfl, hb⟩
  have hb2 : Below X.heap.size X y2 := (ba hb1 _).trans (hb.mono (ba hb1 _).size)
  clear hb
  go_wp2_with fail
  refine hK.out _ _ ⟨hb2, LD.out _ (hb2)⟩ (fun hHeld => ?_)
  clear hK K
  try simp only [Act.put, List.setIfInBounds_toArray, List.set_cons_zero, List.set_cons_succ]
  refine wpAnyH_take (i := 15) (oi := { dst := some 49, op := .binOp .eql 26 (.tmp 47) (.tmp 48) 26, type := _, pos := _, after := _, guard := _ }) (v := ?_) rfl (by kernel_rfl) (by kernel_rfl) (by kernel_rfl) (fun _ _ _ h => h) (Or.inl ⟨by rfl, ?_⟩) (by assumption) ?_
  rotate_left 1
  · intro v hSv
    have hv1 := hSv.2
    clear hSv
    go_simp
    try with_reducible rfl
  try simp only [Act.put, List.setIfInBounds_toArray, List.set_cons_zero, List.set_cons_succ]
  refine wpAnyH_take (i := 16) (oi := { dst := some 50, op := .pick (.tmp 35) (.tmp 49) (.const (.bool false)), type := _, pos := _, after := _, guard := _ }) (v := ?_) rfl (by kernel_rfl) (by kernel_rfl) (by kernel_rfl) (fun _ _ _ h => h) (Or.inl ⟨by rfl, ?_⟩) (by assumption) ?_
  rotate_left 1
  · intro v hSv
    have hv1 := hSv.2
    clear hSv
    go_simp
    try with_reducible rfl
  try simp only [Act.put, List.setIfInBounds_toArray, List.set_cons_zero, List.set_cons_succ]
  refine wpAnyH_take (i := 17) (oi := { dst := some 51, op := .move (.tmp 50), type := _, pos := _, after := _, guard := _ }) (v := ?_) rfl (by kernel_rfl) (by kernel_rfl) (by kernel_rfl) (fun _ _ _ h => h) (Or.inl ⟨by rfl, ?_⟩) (by assumption) ?_
  rotate_left 1
  · intro v hSv
    have hv1 := hSv.2
    clear hSv
    go_simp
    try with_reducible rfl
  try simp only [Act.put, List.setIfInBounds_toArray, List.set_cons_zero, List.set_cons_succ]
  refine wpAnyH_take (i := 18) (oi := { dst := some 52, op := .move (.tmp 0), type := _, pos := _, after := _, guard := _ }) (v := ?_) rfl (by kernel_rfl) (by kernel_rfl) (by kernel_rfl) (fun _ _ _ h => h) (Or.inl ⟨by rfl, ?_⟩) (by assumption) ?_
  rotate_left 1
  · intro v hSv
    have hv1 := hSv.2
    clear hSv
    go_simp
    try with_reducible rfl
  try simp only [Act.put, List.setIfInBounds_toArray, List.set_cons_zero, List.set_cons_succ]
  refine wpAnyH_take (i := 21) (oi := { dst := some 55, op := .load 26 (.tmp 9), type := _, pos := _, after := _, guard := _ }) (v := ?_) rfl (by kernel_rfl) (by kernel_rfl) (by kernel_rfl) (fun _ _ _ h => h) (Or.inl ⟨by rfl, ?_⟩) (by assumption) ?_
  rotate_left 1
  · intro v hSv
    have hv1 := hSv.2
    clear hSv
    go_simp
    try with_reducible rfl
  try simp only [Act.put, List.setIfInBounds_toArray, List.set_cons_zero, List.set_cons_succ]
  refine wpAnyH_ready (rs := [19]) (by kernel_rfl) (by simp) ?_
  refine AllReadyH.cons (o := { dst := some 53, op := .buildSlice 35 1 #[(0, .tmp 52)], type := _, pos := _, after := _, guard := _ }) rfl (fun K hK => ?_) AllReadyH.nil
  go_simp
  refine hK.out _ _ ⟨ba hb2 _, LD.out _ (ba hb2 _)⟩ (fun hHeld => ?_)
  clear hK K
  try simp only [Act.put, List.setIfInBounds_toArray, List.set_cons_zero, List.set_cons_succ]
  refine wpAnyH_ready (rs := [20]) (by kernel_rfl) (by simp) ?_
  refine AllReadyH.cons (o := { dst := some 54, op := .call _, type := _, pos := _, after := _, guard := _ }) rfl (fun K hK => ?_) AllReadyH.nil
  go_simp
  refine (join_l _ _ _ s1 l _ HS1.out h (by decide) (J2.out _ hb2) (VV.out _ (ba hb2 _))).mono ?_
  rintro e y3 ⟨rfl, hb⟩
  have hb3 : Below X.heap.size X y3 := (ba hb2 _).trans (hb.mono (ba hb2 _).size)
  clear hb
  go_wp2_with fail
  refine hK.out _ _ ⟨hb3, LD.out _ (hb3)⟩ (fun hHeld => ?_)
  clear hK K
  try simp only [Act.put, List.setIfInBounds_toArray, List.set_cons_zero, List.set_cons_succ]
  refine wpAnyH_take (i := 22) (oi := { dst := some 56, op := .binOp .eql 26 (.tmp 54) (.tmp 55) 26, type := _, pos := _, after := _, guard := _ }) (v := ?_) rfl (by kernel_rfl) (by kernel_rfl) (by kernel_rfl) (fun _ _ _ h => h) (Or.inl ⟨by rfl, ?_⟩) (by assumption) ?_
  rotate_left 1
  · intro v hSv
    have hv1 := hSv.2
    clear hSv
    go_simp
    try with_reducible rfl
  try simp only [Act.put, List.setIfInBounds_toArray, List.set_cons_zero, List.set_cons_succ]
  refine wpAnyH_take (i := 23) (oi := { dst := some 57, op := .pick (.tmp 51) (.tmp 56) (.const (.bool false)), type := _, pos := _, after := _, guard := _ }) (v := ?_) rfl (by kernel_rfl) (by kernel_rfl) (by kernel_rfl) (fun _ _ _ h => h) (Or.inl ⟨by rfl, ?_⟩) (by assumption) ?_
  rotate_left 1
  · intro v hSv
    have hv1 := hSv.2
    clear hSv
    go_simp
    try with_reducible rfl
  try simp only [Act.put, List.setIfInBounds_toArray, List.set_cons_zero, List.set_cons_succ]
  refine wpAnyH_take (i := 24) (oi := { dst := some 58, op := .move (.tmp 57), type := _, pos := _, after := _, guard := _ }) (v := ?_) rfl (by kernel_rfl) (by kernel_rfl) (by kernel_rfl) (fun _ _ _ h => h) (Or.inl ⟨by rfl, ?_⟩) (by assumption) ?_
  rotate_left 1
  · intro v hSv
    have hv1 := hSv.2
    clear hSv
    go_simp
    try with_reducible rfl
  try simp only [Act.put, List.setIfInBounds_toArray, List.set_cons_zero, List.set_cons_succ]
  refine wpAnyH_take (i := 25) (oi := { dst := some 59, op := .move (.tmp 0), type := _, pos := _, after := _, guard := _ }) (v := ?_) rfl (by kernel_rfl) (by kernel_rfl) (by kernel_rfl) (fun _ _ _ h => h) (Or.inl ⟨by rfl, ?_⟩) (by assumption) ?_
  rotate_left 1
  · intro v hSv
    have hv1 := hSv.2
    clear hSv
    go_simp
    try with_reducible rfl
  try simp only [Act.put, List.setIfInBounds_toArray, List.set_cons_zero, List.set_cons_succ]
  refine wpAnyH_take (i := 28) (oi := { dst := some 62, op := .load 26 (.tmp 9), type := _, pos := _, after := _, guard := _ }) (v := ?_) rfl (by kernel_rfl) (by kernel_rfl) (by kernel_rfl) (fun _ _ _ h => h) (Or.inl ⟨by rfl, ?_⟩) (by assumption) ?_
  rotate_left 1
  · intro v hSv
    have hv1 := hSv.2
    clear hSv
    go_simp
    try with_reducible rfl
  try simp only [Act.put, List.setIfInBounds_toArray, List.set_cons_zero, List.set_cons_succ]
  refine wpAnyH_ready (rs := [26]) (by kernel_rfl) (by simp) ?_
  refine AllReadyH.cons (o := { dst := some 60, op := .buildSlice 35 3 #[(0, .const (.slice none 0 0)), (1, .tmp 59), (2, .const (.slice none 0 0))], type := _, pos := _, after := _, guard := _ }) rfl (fun K hK => ?_) AllReadyH.nil
  go_simp
  refine hK.out _ _ ⟨ba hb3 _, LD.out _ (ba hb3 _)⟩ (fun hHeld => ?_)
  clear hK K
  try simp only [Act.put, List.setIfInBounds_toArray, List.set_cons_zero, List.set_cons_succ]
  refine wpAnyH_ready (rs := [27]) (by kernel_rfl) (by simp) ?_
  refine AllReadyH.cons (o := { dst := some 61, op := .call _, type := _, pos := _, after := _, guard := _ }) rfl (fun K hK => ?_) AllReadyH.nil
  go_simp
  refine (join_l _ _ _ s1 l _ HS1.out h (by decide) (J3.out _ hb3) (VV.out _ (ba hb3 _))).mono ?_
  rintro e y4 ⟨rfl, hb⟩
  have hb4 : Below X.heap.size X y4 := (ba hb3 _).trans (hb.mono (ba hb3 _).size)
  clear hb
  go_wp2_with fail
  refine hK.out _ _ ⟨hb4, LD.out _ (hb4)⟩ (fun hHeld => ?_)
  clear hK K
  try simp only [Act.put, List.setIfInBounds_toArray, List.set_cons_zero, List.set_cons_succ]
  refine wpAnyH_take (i := 29) (oi := { dst := some 63, op := .binOp .eql 26 (.tmp 61) (.tmp 62) 26, type := _, pos := _, after := _, guard := _ }) (v := ?_) rfl (by kernel_rfl) (by kernel_rfl) (by kernel_rfl) (fun _ _ _ h => h) (Or.inl ⟨by rfl, ?_⟩) (by assumption) ?_
  rotate_left 1
  · intro v hSv
    have hv1 := hSv.2
    clear hSv
    go_simp
    try with_reducible rfl
  try simp only [Act.put, List.setIfInBounds_toArray, List.set_cons_zero, List.set_cons_succ]
  refine wpAnyH_take (i := 30) (oi := { dst := some 64, op := .pick (.tmp 58) (.tmp 63) (.const (.bool false)), type := _, pos := _, after := _, guard := _ }) (v := ?_) rfl (by kernel_rfl) (by kernel_rfl) (by kernel_rfl) (fun _ _ _ h => h) (Or.inl ⟨by rfl, ?_⟩) (by assumption) ?_
  rotate_left 1
  · intro v hSv
    have hv1 := hSv.2
    clear hSv
    go_simp
    try with_reducible rfl
  try simp only [Act.put, List.setIfInBounds_toArray, List.set_cons_zero, List.set_cons_succ]
  refine wpAnyH_take (i := 31) (oi := { dst := some 6, op := .assign (.tmp 64), type := _, pos := _, after := _, guard := _ }) (v := ?_) rfl (by kernel_rfl) (by kernel_rfl) (by kernel_rfl) (fun _ _ _ h => h) (Or.inl ⟨by rfl, ?_⟩) (by assumption) ?_
  rotate_left 1
  · intro v hSv
    have hv1 := hSv.2
    clear hSv
    go_simp
    try with_reducible rfl
  try simp only [Act.put, List.setIfInBounds_toArray, List.set_cons_zero, List.set_cons_succ]
  refine wpAnyH_done (by kernel_rfl) ?_ _
  go_wp2_with fail
  go_ret
  exact ⟨rfl, HB3.out.trans (hb4.mono HB3.out.size)⟩
theorem joins_w (A : Option Addr) (c : Nat) (l : List UInt8) (i j : Int) (W : World) (hA : BA W A l) (hc : l.length ≤ c) (hv : Vars W) (hi0 : 0 ≤ i) (hi : i ≤ 65535) (hj0 : 0 ≤ j) (hj : j ≤ 65535) : Calls Tryd.prog 6 #[.slice A l.length c, .int .u16 i, .int .u16 j] W (Yes W) := by
  rcases Nat.lt_or_ge 2000 l.length with h | h
  · exact joins_long A c l i j W hv h
  · obtain ⟨a, rfl⟩ : ∃ k : Nat, i = k := ⟨i.toNat, by omega⟩
    obtain ⟨b, rfl⟩ : ∃ k : Nat, j = k := ⟨j.toNat, by omega⟩
    rcases Nat.lt_trichotomy (a % (l.length + 1)) (b % (l.length + 1)) with h1 | h1 | h1
    · exact joins_lt A c l a b _ _ W hA hc hv h (by omega) (by omega) rfl rfl h1
    · exact joins_eq A c l a b _ W hA hc hv h (by omega) (by omega) rfl h1
    · exact joins_gt A c l a b _ _ W hA hc hv h (by omega) (by omega) rfl rfl h1
end Go.Proofs.YtkbipmhhiahkpaaDoor
