/- The walk of FindWays over contracts (by program: gen-tpl8-laws.py). -/
import Derived.Test.YtpnpdllkcglpnaaDoorOk
import Derived.LaidEqlPtr
namespace Go.Proofs.YtpnpdllkcglpnaaDoor
open Go.RowKit

theorem infoNode : (Tryd.prog.info? 85).isSome = true := by kernel_rfl
/-- A pointer is itself. -/
theorem ne_ptr (p : Option Addr) (w : World) : (binOp .neq 25 (.pointer p) (.pointer p)).run Tryd.prog w = .ok (.bool false) w := by
  obtain ⟨j, hj⟩ : ∃ j, Tryd.prog.info? 85 = some j := Option.isSome_iff_exists.1 infoNode
  have hp : Tryd.prog.underlying 25 = some (.pointer 85) := Tryd.underlying25
  have h : ∀ d : Nat, (Op.equalIn (d + 1) 25 (.pointer p) (.pointer p)).run Tryd.prog w = .ok true w := fun d => by
    cases p with
    | none => simp [Op.equalIn, run_underlying hp]
    | some a => simp [Op.equalIn, run_underlying hp, sizeOf, typeInfo, hj, run_sameAddr_same]
  simp only [binOp]
  simp [Op.equal, Op.maxDepth, h 9999]
set_option maxHeartbeats 16000000 in
set_option maxRecDepth 100000 in
theorem ways_in {M : World → Int → Tv → Prop} (nd : NdV M) (fv : FnV M) (n : Int) (A : Option Addr) (c : Nat) (es : List En) (k : List UInt8) (hk : k.length = 32) (W : World) (hA : EA W A es) (hl : es.length ≤ 12) (hvl : ∀ e ∈ es, e.v.length ≤ 1000) (hf : fewK (es.map En.ent) = true) (hvx : Vars W) (h0 : 0 ≤ n) (h1 : n ≤ 256) :
    Calls Tryd.prog 6 #[.int .i64 n, .slice A es.length c, .agg (bA k)] W (Aye W) := by
  obtain ⟨X, hX⟩ : ∃ X, X = W.alloc (.cells (bA k) 24) := ⟨_, rfl⟩
  have hb0 : Below W.heap.size W X := by rw [hX]; exact (Below.refl _ _).alloc (Nat.le_refl _) _
  have HR0 : Hid (RowB X W.heap.size 24 k) := by show RowB _ _ _ _; rw [hX]; exact RowB.alloc W k _
  have HX := Lib.hid hX
  have HB0 := Lib.hid hb0
  have HT := Lib.hid (tree_in nd n A c es X (hA.below hb0) hl hvl hf (hvx.below hb0) h0 h1)
  have HVE : Hid (∀ e ∈ ofE es, e.v.length ≤ 1000) := fun e he => hvl e (ofE_mem he)
  have HLE : Hid ((ofE es).length ≤ 12) := Nat.le_trans (ofE_len es) hl
  clear hA hvl hf hvx hX hb0
  go_enter Tryd.func6, Tryd.ntmps6
  go_wp2_with fail
  rw [← HX.out]
  clear HX
  refine HT.out.mono ?_
  rintro _ w2 ⟨A2, c2, T, rfl, hc2, hI, hF⟩
  have HI := Lib.hid hI
  have HF2 := Lib.hid hF
  have HC2 := Lib.hid hc2
  obtain ⟨O, hO⟩ : ∃ O, O = ofE es := ⟨_, rfl⟩
  rw [← hO] at HI HF2 HVE HLE HC2 ⊢
  clear hc2 hI hF HT hO
  have LK : Hid (∀ w', Below w2.heap.size w2 w' → ldA 24 w' (.pointer (some ⟨W.heap.size, 0, none⟩)) = .ok (.value (.agg (bA k))) w') := fun w' h => ((HR0.out.below HF2.out.bel).below h).ldKey hk
  go_wp2_with fail
  refine wp_region_held_drew (S := fun w' => Below w2.heap.size w2 w') (by kernel_rfl) ((Below.refl _ _).drew) (fun hHeld => ?_)
  have hb0 : Below w2.heap.size w2 w2.drew := (Below.refl _ _).drew
  refine wpAnyH_take (i := 0) (oi := { dst := some 27, op := .move (.tmp 8), type := _, pos := _, after := _, guard := _ }) (v := ?_) rfl (by kernel_rfl) (by kernel_rfl) (by kernel_rfl) (fun _ _ _ h => h) (Or.inl ⟨by rfl, ?_⟩) (by assumption) ?_
  rotate_left 1
  · intro v hSv
    clear hSv
    go_simp
    try with_reducible rfl
  try simp only [Act.put, List.setIfInBounds_toArray, List.set_cons_zero, List.set_cons_succ]
  refine wpAnyH_take (i := 1) (oi := { dst := some 28, op := .load _ (.tmp 5), type := _, pos := _, after := _, guard := _ }) (v := ?_) rfl (by kernel_rfl) (by kernel_rfl) (by kernel_rfl) (fun _ _ _ h => h) (Or.inl ⟨by rfl, ?_⟩) (by assumption) ?_
  rotate_left 1
  · intro v hSv
    have hv1 := LK.out v hSv
    clear hSv
    go_simp
    try with_reducible rfl
  try simp only [Act.put, List.setIfInBounds_toArray, List.set_cons_zero, List.set_cons_succ]
  refine wpAnyH_take (i := 3) (oi := { dst := some 30, op := .move (.tmp 8), type := _, pos := _, after := _, guard := _ }) (v := ?_) rfl (by kernel_rfl) (by kernel_rfl) (by kernel_rfl) (fun _ _ _ h => h) (Or.inl ⟨by rfl, ?_⟩) (by assumption) ?_
  rotate_left 1
  · intro v hSv
    clear hSv
    go_simp
    try with_reducible rfl
  try simp only [Act.put, List.setIfInBounds_toArray, List.set_cons_zero, List.set_cons_succ]
  refine wpAnyH_take (i := 4) (oi := { dst := some 31, op := .load _ (.tmp 5), type := _, pos := _, after := _, guard := _ }) (v := ?_) rfl (by kernel_rfl) (by kernel_rfl) (by kernel_rfl) (fun _ _ _ h => h) (Or.inl ⟨by rfl, ?_⟩) (by assumption) ?_
  rotate_left 1
  · intro v hSv
    have hv1 := LK.out v hSv
    clear hSv
    go_simp
    try with_reducible rfl
  try simp only [Act.put, List.setIfInBounds_toArray, List.set_cons_zero, List.set_cons_succ]
  refine wpAnyH_ready (rs := [2]) (by kernel_rfl) (by simp) ?_
  refine AllReadyH.cons (o := { dst := some 29, op := .call _, type := _, pos := _, after := _, guard := _ }) rfl (fun K hK => ?_) AllReadyH.nil
  go_simp
  refine (fv.way w2.drew n _ T k (nd.below HF2.out.ms (hb0)) HI.out hk).mono ?_
  rintro e y1 ⟨Aw, cw, rfl, hPw, hb⟩
  have hb1 : Below w2.heap.size w2 y1 := keeps (hb0) hb
  have HPw := Lib.hid hPw
  clear hPw
  clear hb
  go_wp2_with fail
  refine hK.out _ _ (hb1) (fun hHeld => ?_)
  clear hK K
  try simp only [Act.put, List.setIfInBounds_toArray, List.set_cons_zero, List.set_cons_succ]
  refine wpAnyH_ready (rs := [5]) (by kernel_rfl) (by simp) ?_
  refine AllReadyH.cons (o := { dst := some 32, op := .call _, type := _, pos := _, after := _, guard := _ }) rfl (fun K hK => ?_) AllReadyH.nil
  go_simp
  refine (fv.siblings y1 n _ T k (nd.below HF2.out.ms (hb1)) HI.out hk).mono ?_
  rintro e y2 ⟨As, cs, rfl, hPs, hb⟩
  have hb2 : Below w2.heap.size w2 y2 := keeps (hb1) hb
  have HPs := Lib.hid hPs
  have HPv := Lib.hid (HPw.out.below hb)
  clear hPs HPw
  clear hb
  go_wp2_with fail
  refine hK.out _ _ (hb2) (fun hHeld => ?_)
  clear hK K
  try simp only [Act.put, List.setIfInBounds_toArray, List.set_cons_zero, List.set_cons_succ]
  refine wpAnyH_take (i := 6) (oi := { dst := some 10, op := .assign (.tmp 29), type := _, pos := _, after := _, guard := _ }) (v := ?_) rfl (by kernel_rfl) (by kernel_rfl) (by kernel_rfl) (fun _ _ _ h => h) (Or.inl ⟨by rfl, ?_⟩) (by assumption) ?_
  rotate_left 1
  · intro v hSv
    clear hSv
    go_simp
    try with_reducible rfl
  try simp only [Act.put, List.setIfInBounds_toArray, List.set_cons_zero, List.set_cons_succ]
  refine wpAnyH_take (i := 7) (oi := { dst := some 11, op := .assign (.tmp 32), type := _, pos := _, after := _, guard := _ }) (v := ?_) rfl (by kernel_rfl) (by kernel_rfl) (by kernel_rfl) (fun _ _ _ h => h) (Or.inl ⟨by rfl, ?_⟩) (by assumption) ?_
  rotate_left 1
  · intro v hSv
    clear hSv
    go_simp
    try with_reducible rfl
  try simp only [Act.put, List.setIfInBounds_toArray, List.set_cons_zero, List.set_cons_succ]
  refine wpAnyH_done (by kernel_rfl) ?_ _
  have HF3 := Lib.hid (HF2.out.below nd (hb2))
  clear LK
  obtain ⟨w3, hw3⟩ : ∃ w, w = y2 := ⟨_, rfl⟩
  rw [← hw3] at HF3 HPs HPv ⊢
  clear hw3 hb0 hb1 hb2 hHeld
  have lk := (HR0.out.below HF3.out.bel).ldKey hk
  obtain ⟨pt, hpt⟩ := val_ptr nd HF3.out.ms
  obtain ⟨pf, hpf⟩ := val_ptr nd (ms_fin nd k (d := 0) HF3.out.ms)
  obtain ⟨S, hS⟩ : ∃ S, S = T.sibs k 0 := ⟨_, rfl⟩
  obtain ⟨V, hV⟩ : ∃ V, V = T.way k 0 := ⟨_, rfl⟩
  obtain ⟨D, hD⟩ : ∃ D, D = T.dep k 0 := ⟨_, rfl⟩
  have HSL : Hid (S.length = D ∧ V.length = D + 1 ∧ D ≤ 256) := by
    have h1 := sibs_len k T 0
    have h2 := way_len k T 0
    have h3 := dep_le HI.out.sep (HI.out.at k)
    refine ⟨?_, ?_, ?_⟩
    · rw [hS, hD]; omega
    · rw [hV, hD, h2]; omega
    · rw [hD]; exact h3
  have HV0 : Hid (V[0]? = some T ∧ V[D]? = some (T.fin k 0)) := by
    refine ⟨by rw [hV]; exact way_head k T 0, ?_⟩
    have := way_last k T 0
    rw [← hS, HSL.out.1] at this
    rw [hV]
    exact this
  have HWA : Hid (∀ m, m < D → m < 256 ∧ ∃ v a b, V[m]? = some (.inner v a b) ∧ V[m + 1]? = some (if bitK k m = 0 then a else b) ∧ S[m]? = some (if bitK k m = 0 then b else a)) := fun m hm => by
    have := way_at k T 0 m (by rw [← hS, HSL.out.1]; exact hm)
    rw [Nat.zero_add] at this
    rw [hV, hS]
    exact ⟨by have := HSL.out.2.2; omega, this⟩
  have HMV : Hid (∀ {w : World}, M w n T → (∀ x ∈ V, M w n x) ∧ ∀ x ∈ S, M w n x) := fun h => by
    rw [hV, hS]
    exact ⟨fun x hx => ms_way nd k T 0 h x hx, fun x hx => ms_sibs nd k T 0 h x hx⟩
  rw [← hS] at HPs ⊢
  rw [← hV] at HPv ⊢
  have HC := Lib.hid (fv.locate w3 n _ T k HF3.out.ms HI.out hk)
  rw [hpt, hpf, ← hD] at HC
  have hpl : V[D]? = some (T.fin k 0) := HV0.out.2
  obtain ⟨gw, ow, rfl, hc0⟩ := HPv.out 0 T HV0.out.1
  obtain ⟨gw2, ow2, e2, hcD⟩ := HPv.out D _ hpl
  cases e2
  rw [hpt] at hc0
  rw [hpf] at hcD
  have LC : Hid (∀ w', Below w3.heap.size w3 w' → w'.cell? ⟨gw, ow + 0, none⟩ = some (.pointer pt) ∧ w'.cell? ⟨gw, ow + D, none⟩ = some (.pointer pf)) := fun w' h => ⟨by rw [h.cell (lt_of_cell hc0)]; exact hc0, by rw [h.cell (lt_of_cell hcD)]; exact hcD⟩
  rw [hpt, HSL.out.1, HSL.out.2.1]
  have HPT := Lib.hid hpt
  have hD256 : D ≤ 256 := HSL.out.2.2
  clear hpl hc0 hcD hS hV hD hpf hpt
  go_wp2_with fail
  refine HC.out.mono ?_
  rintro _ w4 ⟨rfl, hB⟩
  obtain ⟨hc0, hcD⟩ := LC.out w4 hB
  rw [Nat.add_zero] at hc0
  have HF4 := Lib.hid (HF3.out.below nd hB)
  have HPs4 := Lib.hid (HPs.out.below hB)
  have HPv4 := Lib.hid (HPv.out.below hB)
  have i0 : (0 : Int) < ((D + 1 : Nat) : Int) := by omega
  have i1 : (D : Int) < ((D + 1 : Nat) : Int) := by omega
  have i2 : (0 : Int) ≤ (D : Int) := by omega
  have n1 : (((D + 1 : Nat) : Int) != (D : Int) + 1) = false := by rw [bne_eq_false_iff_eq]; omega
  have n2 : ((D : Int) != (D : Int)) = false := by simp
  have np := fun w => ne_ptr pt w
  have nf := fun w => ne_ptr pf w
  clear hB HC LC HF3 HPs HPv lk
  go_wp2_with fail
  clear np nf hc0 hcD i0 i1 i2 n1 n2
  go_loopg [14, 15, 16, 67] D (fun gg _ _ _ i wr => ∃ m : Nat, i = .int .i64 (m : Int) ∧ m ≤ D ∧ D - m = gg ∧ Fs M X n A2 O T wr ∧ PA wr As S ∧ PA wr (some ⟨gw, ow, none⟩) V)
  case atStart => exact ⟨0, rfl, by omega, by omega, HF4.out, HPs4.out, HPv4.out⟩
  case round =>
    obtain ⟨m, rfl, hm, rfl, hF, hPs, hPv⟩ := hrel
    have HF5 := Lib.hid hF
    have HPs5 := Lib.hid hPs
    have HPv5 := Lib.hid hPv
    clear hF HF4 HPs4 HPv4
    by_cases hlt : m < D
    · have hd : decide (m < D) = true := decide_eq_true hlt
      obtain ⟨hm256, v, ta, tb, e1, e2, e3⟩ := HWA.out m hlt
      have h01 := bitK_01 k m hm256
      have HBC : Hid (∀ w, Calls Tryd.prog 26 #[.agg (bA k), .int .i64 (m : Int)] w fun e w' => e = .returned (.int .i64 (bitK k m)) ∧ Below w.heap.size w w') := fun w => bitK_c k hk m w
      obtain ⟨q, hq⟩ : ∃ q, q = bitK k m := ⟨_, rfl⟩
      rw [← hq] at e2 e3 h01 HBC
      obtain ⟨Tm, hTm⟩ : ∃ t, t = Tv.inner v ta tb := ⟨_, rfl⟩
      rw [← hTm] at e1
      have hch : Tm.child q = (if q = 0 then ta else tb) ∧ Tm.child (1 - q) = (if q = 0 then tb else ta) ∧ kindT Tm.tr = 2 := by
        rw [hTm]
        refine ⟨rfl, ?_, rfl⟩
        show (if 1 - q = 0 then ta else tb) = _
        rcases h01 with h | h
        · rw [h]; rfl
        · rw [h]; rfl
      obtain ⟨hc1, hc2, hkd⟩ := hch
      rw [← hc1] at e2
      rw [← hc2] at e3
      have HMM : Hid (∀ {w : World}, M w n T → M w n Tm) := fun h => (HMV.out h).1 Tm (List.mem_of_getElem? e1)
      have HMN : Hid (∀ {w : World}, M w n T → M w n (Tm.child q)) := fun h => (HMV.out h).1 _ (List.mem_of_getElem? e2)
      have HMX : Hid (∀ {w : World}, M w n T → M w n (Tm.child (1 - q))) := fun h => (HMV.out h).2 _ (List.mem_of_getElem? e3)
      obtain ⟨pm, hpm⟩ := val_ptr nd (HMM.out HF5.out.ms)
      obtain ⟨pn, hpn⟩ := val_ptr nd (HMN.out HF5.out.ms)
      obtain ⟨px, hpx⟩ := val_ptr nd (HMX.out HF5.out.ms)
      obtain ⟨g1, o1, E1, c1⟩ := HPv5.out m _ e1
      cases E1
      obtain ⟨g2, o2, E2, c2'⟩ := HPv5.out (m + 1) _ e2
      cases E2
      obtain ⟨g3, o3, rfl, c3⟩ := HPs5.out m _ e3
      rw [hpm] at c1
      rw [hpn] at c2'
      rw [hpx] at c3
      have p0 : (0 : Int) ≤ (m : Int) := by omega
      have p1 : (m : Int) < (D : Int) := by omega
      have p2 : (m : Int) < ((D + 1 : Nat) : Int) := by omega
      have p3 : (m : Int) + 1 < ((D + 1 : Nat) : Int) := by omega
      have q0 : 0 ≤ q := by omega
      have q1 : q ≤ 1 := by omega
      have lk := (HR0.out.below HF5.out.bel).ldKey hk
      have HQ1 := Lib.hid c1
      have HQ2 := Lib.hid c2'
      have HKD := Lib.hid hkd
      have HPM := Lib.hid hpm
      have HPN := Lib.hid hpn
      have HPX := Lib.hid hpx
      clear e1 e2 e3 h01 hq hTm hc1 hc2 hkd hpm hpn hpx c1 c2' hPs hPv
      go_wp2_with fail
      refine (HBC.out wr).mono ?_
      rintro _ w6 ⟨rfl, hB⟩
      have HF6 := Lib.hid (HF5.out.below nd hB)
      have HPs6 := Lib.hid (HPs5.out.below hB)
      have HPv6 := Lib.hid (HPv5.out.below hB)
      have HQ1' : Hid (w6.cell? ⟨gw, ow + m, none⟩ = some (.pointer pm)) := by show _ = _; rw [hB.cell (lt_of_cell HQ1.out)]; exact HQ1.out
      have HQ2' : Hid (w6.cell? ⟨gw, ow + (m + 1), none⟩ = some (.pointer pn)) := by show _ = _; rw [hB.cell (lt_of_cell HQ2.out)]; exact HQ2.out
      have l1 : ∀ x : Later w6, x.w.cell? ⟨gw, ow + m, none⟩ = some (.pointer pm) := fun x => by rw [x.h.cell (lt_of_cell HQ1'.out)]; exact HQ1'.out
      have l2 : ∀ x : Later w6, x.w.cell? ⟨gw, ow + (m + 1), none⟩ = some (.pointer pn) := fun x => by rw [x.h.cell (lt_of_cell HQ2'.out)]; exact HQ2'.out
      have HCK : Hid (∀ x : Later w6, Calls Tryd.prog 14 #[.pointer pm] x.w fun e w' => e = .returned (.int .i64 2) ∧ Below x.w.heap.size x.w w') := fun x => by
        have := nd.kind x.w n Tm (HMM.out (nd.below HF6.out.ms x.h))
        rw [HPM.out, HKD.out] at this
        exact this
      have HC1 : Hid (∀ x : Later w6, ∀ b : Int, Calls Tryd.prog 27 #[.pointer pm, .int .i64 b] x.w fun e w' => e = .returned (Tm.child b).val ∧ Below x.w.heap.size x.w w') := fun x b => by
        have := fv.child x.w n Tm b (HMM.out (nd.below HF6.out.ms x.h))
        rw [HPM.out] at this
        exact this
      have v1 : (Tm.child q).val = .pointer pn := HPN.out
      have v2 : (Tm.child (1 - q)).val = .pointer px := HPX.out
      have np := fun w => ne_ptr pn w
      have nx := fun w => ne_ptr px w
      clear hB HF5 HPs5 HPv5 lk HBC c3
      go_wp2_with fail
      refine wp_region_later (by kernel_rfl) (by kernel_rfl) ?_
      repeat (go_big_quiet_step ((first | (go_at_call 14; exact Later.call (HCK.out _)) | (go_at_call 27; exact Later.call (HC1.out _ _)))))
      refine wpQuiet_nil ?_
      rintro _ ⟨x, rfl⟩
      have HF7 := Lib.hid (HF6.out.below nd x.h)
      have HPs7 := Lib.hid (HPs6.out.below x.h)
      have HPv7 := Lib.hid (HPv6.out.below x.h)
      clear l1 l2 v1 v2 np nx
      go_wp2_with fail
      go_roundg (D - (m + 1))
      case measure => omega
      case rel => exact ⟨m + 1, by go_num, by omega, rfl, HF7.out, HPs7.out, HPv7.out⟩
    · obtain rfl : m = D := by omega
      have hd : decide (m < m) = false := decide_eq_false (by omega)
      have HAL := Lib.hid (alive8_c nd fv wr HF5.out.vars)
      clear hPs hPv
      go_wp2_with fail
      refine HAL.out.mono ?_
      rintro _ w7 ⟨rfl, hB⟩
      have HF7 := Lib.hid (HF5.out.below nd hB)
      clear hB HAL HF5
      go_wp2_with fail
      go_ret
      exact ⟨rfl, HB0.out.trans (HF7.out.bel.mono HB0.out.size)⟩
set_option maxHeartbeats 4000000 in
set_option maxRecDepth 100000 in
/-- Other bits, or entries that are not few: alive. -/
theorem ways_out {M : World → Int → Tv → Prop} (nd : NdV M) (fv : FnV M) (n : Int) (A : Option Addr) (c : Nat) (es : List En) (k : List UInt8) (W : World) (hA : EA W A es) (hvx : Vars W) (h : (n < 0 ∨ 256 < n) ∨ fewK (es.map En.ent) = false) :
    Calls Tryd.prog 6 #[.int .i64 n, .slice A es.length c, .agg (bA k)] W (Aye W) := by
  obtain ⟨X, hX⟩ : ∃ X, X = W.alloc (.cells (bA k) 24) := ⟨_, rfl⟩
  have hb0 : Below W.heap.size W X := by rw [hX]; exact (Below.refl _ _).alloc (Nat.le_refl _) _
  have HX := Lib.hid hX
  have HB0 := Lib.hid hb0
  have HVX := Lib.hid (hvx.below hb0)
  have HT := Lib.hid (tree_out n A c es X (hA.below hb0) h)
  have HAL := Lib.hid (fun w h => alive8_c nd fv w h)
  clear hA hvx h hX hb0
  go_enter Tryd.func6, Tryd.ntmps6
  go_wp2_with fail
  rw [← HX.out]
  clear HX
  refine HT.out.mono ?_
  rintro _ w2 ⟨rfl, hB⟩
  have HB := Lib.hid hB
  clear hB HT
  go_wp2_with fail
  refine (HAL.out w2 (HVX.out.below HB.out)).mono ?_
  rintro _ w3 ⟨rfl, hB3⟩
  have HB3 := Lib.hid (HB.out.trans (hB3.mono HB.out.size))
  clear hB3
  go_wp2_with fail
  go_ret
  exact ⟨rfl, HB0.out.trans (HB3.out.mono HB0.out.size)⟩
theorem ways_w {M : World → Int → Tv → Prop} (nd : NdV M) (fv : FnV M) (n : Int) (A : Option Addr) (c : Nat) (es : List En) (k : List UInt8) (hk : k.length = 32) (W : World) (hA : EA W A es) (hvx : Vars W) :
    Calls Tryd.prog 6 #[.int .i64 n, .slice A es.length c, .agg (bA k)] W (Aye W) := by
  rcases Classical.em ((n < 0 ∨ 256 < n) ∨ fewK (es.map En.ent) = false) with h | h
  · exact ways_out nd fv n A c es k W hA hvx h
  · have hf : fewK (es.map En.ent) = true := by
      cases hq : fewK (es.map En.ent) with
      | true => rfl
      | false => exact absurd (.inr hq) h
    have hl := few_len hf
    rw [List.length_map] at hl
    exact ways_in nd fv n A c es k hk W hA hl (fun e he => Nat.le_trans (few_val hf e.ent (List.mem_map.2 ⟨e, he, rfl⟩)) (by decide)) hf hvx (by omega) (by omega)
end Go.Proofs.YtpnpdllkcglpnaaDoor
