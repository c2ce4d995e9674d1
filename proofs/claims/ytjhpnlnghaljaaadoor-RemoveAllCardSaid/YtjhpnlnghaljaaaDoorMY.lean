/- Several texts in one: Ya Yb Yc Yd Ye Yf. -/
import Derived.Test.YtjhpnlnghaljaaaDoorMU
import Derived.LaidEqlPtr
import Derived.Test.YtjhpnlnghaljaaaDoorXi
/- What the program of layer 10 keeps, as a contract over subtrees of maps; plain facts on keys taken out. -/
namespace Go.Proofs.YtjhpnlnghaljaaaDoor
open Go.RowKit

def hasK (l : List Ent) (k : List UInt8) : Bool := l.any fun e => decide (e.k = k)
def cntK : List Ent → List (List UInt8) → Nat
  | _, [] => 0
  | l, k :: r => (if hasK l k then 1 else 0) + cntK (rmK l k) r
/-- The key agrees with the map's in the first bits. -/
def AptK (d : Int) (l : List Ent) (k : List UInt8) : Prop := k.length = 32 ∧ ∀ a ∈ l, ∀ i : Nat, (i : Int) < d → i < 256 → Bt.bit (keyF a.k) i = Bt.bit (keyF k) i
theorem hasK_no {l : List Ent} {k : List UInt8} (h : hasK l k = false) : ∀ e ∈ l, e.k ≠ k := fun e he hk => by
  have := List.any_eq_false.1 h e he
  simp [hk] at this
theorem hasK_yes {l : List Ent} {k : List UInt8} (h : hasK l k = true) : ∃ e ∈ l, e.k = k := by
  obtain ⟨e, he, h1⟩ := List.any_eq_true.1 h
  exact ⟨e, he, of_decide_eq_true h1⟩
theorem rmK_no {l : List Ent} {k : List UInt8} (h : hasK l k = false) : rmK l k = l := List.filter_eq_self.2 fun e he => by
  have := hasK_no h e he
  simp [this]
theorem rmK_len_eq {l : List Ent} (hs : l.Pairwise (fun a b => a.k ≠ b.k)) (k : List UInt8) : (rmK l k).length + (if hasK l k then 1 else 0) = l.length := by
  induction l with
  | nil => rfl
  | cons x r ih =>
    obtain ⟨h1, h2⟩ := List.pairwise_cons.1 hs
    have i := ih h2
    by_cases hx : x.k = k
    · have hno : hasK r k = false := List.any_eq_false.2 fun e he => by
        have := h1 e he
        rw [hx] at this
        simp [Ne.symm this]
      rw [hno] at i
      have e1 : rmK (x :: r) k = rmK r k := by simp [rmK, hx]
      have e2 : hasK (x :: r) k = true := by simp [hasK, hx]
      rw [e1, e2, List.length_cons]
      simpa using i
    · have e1 : rmK (x :: r) k = x :: rmK r k := by simp [rmK, hx]
      have e2 : hasK (x :: r) k = hasK r k := by simp [hasK, hx]
      rw [e1, e2, List.length_cons, List.length_cons]
      omega
/-- A slice of keys. -/
def KS (w : World) (A : Option Addr) (ks : List (List UInt8)) : Prop := ∀ i k, ks[i]? = some k → k.length = 32 ∧ ∃ g o, A = some ⟨g, o, none⟩ ∧ w.rangeAt g (o + i * 32) (k.map bv)
theorem KS.below {w w' : World} {A : Option Addr} {ks : List (List UInt8)} (h : KS w A ks) (hb : Below w.heap.size w w') : KS w' A ks := fun i k hi => by
  obtain ⟨h1, g, o, h2, h3⟩ := h i k hi
  exact ⟨h1, g, o, h2, range_below h3 hb⟩
/-- What the program of layer 10 keeps. -/
structure RmV (M : World → Int → Tv → Prop) : Prop where
  remove : ∀ (w : World) (b : Nat) (n : Int) (c : Nat) (l : List Ent) (T : Tv) (k : List UInt8), Hs w b n c → c ≤ 500000 → Vars w → M w n T → IsMap l T → l.length ≤ 100000 → k.length = 32 →
    Calls Tryd.prog 11 #[ptr b, T.val, .agg (bA k)] w fun x w' => ∃ T', x = .returned (.tuple #[T'.val, .bool (hasK l k)]) ∧ IsMap (rmK l k) T' ∧ Made M w b n T T' (c + 1000) w' ∧ (hasK l k = false → T' = T ∧ Hs w' b n c)
  atd : ∀ (w : World) (b : Nat) (n : Int) (c d : Nat) (l : List Ent) (T : Tv) (k : List UInt8), Hs w b n c → c ≤ 500000 → Vars w → M w n T → SubMap d l T → d ≤ 256 → AptK d l k → l.length ≤ 100000 →
    Calls Tryd.prog 23 #[ptr b, T.val, .agg (bA k), .int .i64 (d : Int)] w fun x w' => ∃ T', x = .returned (.tuple #[T'.val, .bool (hasK l k)]) ∧ SubMap d (rmK l k) T' ∧ Made M w b n T T' (c + 1000) w' ∧ (hasK l k = false → T' = T ∧ Hs w' b n c)
  all : ∀ (w : World) (b : Nat) (n : Int) (c : Nat) (l : List Ent) (T : Tv) (A : Option Addr) (cA : Nat) (ks : List (List UInt8)), Hs w b n c → c ≤ 100000 → Vars w → M w n T → IsMap l T → l.length ≤ 10000 → KS w A ks → ks.length ≤ 20 →
    Calls Tryd.prog 20 #[ptr b, T.val, .slice A ks.length cA] w fun x w' => ∃ T', x = .returned (.tuple #[T'.val, .int .i64 (cntK l ks : Int)]) ∧ IsMap (ks.foldl rmK l) T' ∧ Made M w b n T T' (c + 1000 * ks.length) w'
end Go.Proofs.YtjhpnlnghaljaaaDoor

/- alive of layer 10 over contracts. -/
namespace Go.Proofs.YtjhpnlnghaljaaaDoor
open Go.RowKit

theorem eql_ptr (p : Option Addr) (w : World) : (binOp .eql 25 (.pointer p) (.pointer p)).run Tryd.prog w = .ok (.bool true) w := by
  cases p with
  | none => kernel_rfl
  | some a =>
    obtain ⟨i, hi⟩ := Option.isSome_iff_exists.1 (show (Tryd.prog.info? 81).isSome = true by kernel_rfl)
    exact run_eql_ptr_same w a Tryd.underlying25 hi
def k1k : List UInt8 := 1 :: List.replicate 31 0
theorem bldKey_1k (w : World) : bldA 24 w #[(0, .int .u8 1)] = .ok (.value (.agg (bA k1k))) w := by kernel_rfl
/-! ### Slices of keys built -/
noncomputable def bsK (w : World) (n : Nat) (parts : Array (Nat × Value)) : Result Next := Sem.run Tryd.prog (do pure (.value (← Instr.buildSlice 47 n parts))) w
@[go_sem ↓] theorem execOp_build_keys (ρ : Operand → Value) (dst : Option Tmp) (n : Nat) (parts : Array (Nat × Operand)) (type : TypeId) (pos : String) (after : Array Edge) (guard : Option (Nat × Bool)) (w : World) :
    Sem.run Tryd.prog (execOp ρ { dst, op := .buildSlice 47 n parts, type, pos, after, guard }) w = bsK w n (parts.map fun x => (x.1, ρ x.2)) := rfl
theorem bsK_alive (w : World) : bsK w 3 #[(0, .agg (bA k64)), (1, .agg (bA z26)), (2, .agg (bA k64))] = .ok (.value (.slice (some ⟨w.heap.size, 0, none⟩) 3 3)) (w.alloc (.cells (bA (k64 ++ (z26 ++ k64))) 24)) := by kernel_rfl
theorem ks_alive (w : World) (t : TypeId) : KS (w.alloc (.cells (bA (k64 ++ (z26 ++ k64))) t)) (some ⟨w.heap.size, 0, none⟩) [k64, z26, k64] := fun i k hi => by
  have hc : ∀ (o : Nat) (l : List UInt8), ((k64 ++ (z26 ++ k64)).drop o).take 32 = l → l.length = 32 → (w.alloc (.cells (bA (k64 ++ (z26 ++ k64))) t)).rangeAt w.heap.size o (l.map bv) := fun o l h hl j v hv => by
    rw [cell_of_cells (heap_alloc_new w _)]
    have hj : j < 32 := by have := (List.getElem?_eq_some_iff.1 hv).1; simpa [hl] using this
    unfold bA
    rw [List.getElem?_toArray, List.getElem?_map]
    rw [List.getElem?_map, ← h, List.getElem?_take_of_lt hj, List.getElem?_drop] at hv
    exact hv
  match i, hi with
  | 0, hi => cases hi; exact ⟨rfl, _, _, rfl, hc 0 k64 rfl rfl⟩
  | 1, hi => cases hi; exact ⟨rfl, _, _, rfl, hc 32 z26 rfl rfl⟩
  | 2, hi => cases hi; exact ⟨rfl, _, _, rfl, hc 64 k64 rfl rfl⟩
theorem has_a : hasK [E8a, E9b] z26 = true := by decide
theorem has_1 : hasK [E8a, E9b] k1k = false := by decide
theorem rm_a : rmK [E8a, E9b] z26 = [E9b] := by decide
theorem cnt_a : cntK [E8a, E9b] [k64, z26, k64] = 2 := by decide
theorem rms_a : [k64, z26, k64].foldl rmK [E8a, E9b] = [] := by decide
theorem leaf_of {T : Tv} {e : Ent} (h : IsMap [e] T) : ∃ v, T = .leaf v e := by
  have ht := h.tr
  rw [growT_one] at ht
  cases T with
  | nil => cases ht
  | leaf v x => injection ht with hx; exact ⟨v, by rw [hx]⟩
  | inner v a b => cases ht
theorem nil_of {T : Tv} (h : IsMap [] T) : T = .nil := by
  have ht := h.tr
  rw [growT_none] at ht
  cases T with
  | nil => rfl
  | leaf v x => cases ht
  | inner v a b => cases ht
theorem field_entryKey_f (f : Nat → UInt8) (A : Option Addr) (n c : Nat) (w : World) : (Instr.field 42 (.agg (((List.range 32).map f).map bv ++ [Value.slice A n c]).toArray) 0).run Tryd.prog w = .ok (.agg (bA ((List.range 32).map f))) w := by kernel_rfl
theorem field_entryKey (e : En) (h : e.k.length = 32) (w : World) : (Instr.field 42 (.agg (enC e).toArray) 0).run Tryd.prog w = .ok (.agg (bA e.k)) w := by
  have h1 := field_entryKey_f (fun j => e.k.getD j 0) e.A e.v.length e.c w
  rw [← list32 e.k h] at h1
  exact h1
set_option maxHeartbeats 8000000 in
set_option maxRecDepth 100000 in
theorem alive10_c {M : World → Int → Tv → Prop} (nd : NdV M) (pv : PtV M) (rm : RmV M) (w : World) (hvx : Vars w) : Calls Tryd.prog 10 #[] w (Aye w) := by
  have HVX := Lib.hid hvx
  have HH := Lib.hid (hash_in 256 w (by decide) (by decide))
  clear hvx
  go_enter Tryd.func10, Tryd.ntmps10
  go_wp2_with fail
  refine HH.out.mono ?_
  rintro _ w1 ⟨b, rfl, hb, hH, hB⟩
  have HN1 := Lib.hid hb
  have b1 := bldEntry_1
  have bk := bldKey_64
  have b2 := bldEntry_64
  have bs : ∀ w : World, bsE w 2 #[(0, .agg (enC (e8a (some ⟨w1.heap.size, 0, none⟩))).toArray), (1, .agg (enC (e9b (some ⟨w1.heap.size + 1, 0, none⟩))).toArray)] = .ok (.value (.slice (some ⟨w.heap.size, 0, none⟩) 2 2)) (w.alloc (.cells (enC (e8a (some ⟨w1.heap.size, 0, none⟩)) ++ enC (e9b (some ⟨w1.heap.size + 1, 0, none⟩))).toArray 42)) := fun w => bsE9_two _ _ rfl rfl w
  obtain ⟨ea, hea⟩ : ∃ e, e = e8a (some ⟨w1.heap.size, 0, none⟩) := ⟨_, rfl⟩
  obtain ⟨eb, heb⟩ : ∃ e, e = e9b (some ⟨w1.heap.size + 1, 0, none⟩) := ⟨_, rfl⟩
  obtain ⟨Y1, hY1⟩ : ∃ Y, Y = w1.alloc (.cells #[Value.int .u8 1] 5) := ⟨_, rfl⟩
  obtain ⟨Y2, hY2⟩ : ∃ Y, Y = Y1.alloc (.cells #[Value.int .u8 2] 5) := ⟨_, rfl⟩
  obtain ⟨Y, hY⟩ : ∃ Y, Y = Y2.alloc (.cells (enC ea ++ enC eb).toArray 42) := ⟨_, rfl⟩
  have hb1 : Below w1.heap.size w1 Y1 := by rw [hY1]; exact (Below.refl _ _).alloc (Nat.le_refl _) _
  have hb2 : Below Y1.heap.size Y1 Y2 := by rw [hY2]; exact (Below.refl _ _).alloc (Nat.le_refl _) _
  have hb3 : Below Y2.heap.size Y2 Y := by rw [hY]; exact (Below.refl _ _).alloc (Nat.le_refl _) _
  have hs1 : Y1.heap.size = w1.heap.size + 1 := by rw [hY1]; simp
  have hs2 : Y2.heap.size = w1.heap.size + 1 + 1 := by rw [hY2]; simp [hs1]
  have hoka : EnOk Y1 ea := by
    rw [hea, hY1]
    exact ⟨rfl, Nat.le_refl 1, BA_row (l := [1]) (heap_alloc_new w1 _)⟩
  have hokb : EnOk Y2 eb := by
    rw [heb, hY2, ← hs1]
    exact ⟨rfl, Nat.le_refl 1, BA_row (l := [2]) (heap_alloc_new Y1 _)⟩
  have hEA : EA Y (some ⟨w1.heap.size + 1 + 1, 0, none⟩) [ea, eb] := by
    rw [← hs2, hY]
    exact two_ea Y2 ea eb (hoka.below hb2) hokb _
  have hbY : Below w1.heap.size w1 Y := (hb1.trans (hb2.mono hb1.size)).trans (hb3.mono (Nat.le_trans hb1.size hb2.size))
  have hev : ∀ e ∈ ([ea, eb] : List En), e.v.length ≤ 1000 := fun e he => by
    rcases List.mem_cons.1 he with rfl | he2
    · rw [hea]; exact (show 1 ≤ 1000 by decide)
    · rw [List.mem_singleton.1 he2, heb]; exact (show 1 ≤ 1000 by decide)
  have hfold : (([ea, eb] : List En).map En.ent).foldl putK [] = [E8a, E9b] := by rw [hea, heb]; exact put_64
  have HHY := Lib.hid (hH.keep (Keep.of_below (L := fun _ => False) hbY) fun h => h)
  have HVY := Lib.hid ((HVX.out.below hB).below hbY)
  have HBY := Lib.hid (hB.trans (hbY.mono hB.size))
  have HPA := Lib.hid (pv.all Y b 256 0 [] .nil (some ⟨w1.heap.size + 1 + 1, 0, none⟩) 2 [ea, eb] HHY.out (by decide) HVY.out (nd.nil _ _) map_none (by decide) hEA (show 2 ≤ 20 by decide) hev)
  rw [hfold, show ([ea, eb] : List En).length = 2 from rfl, show (Tv.nil).val = .pointer none from rfl] at HPA
  have HE1 := Lib.hid hea
  have HE2 := Lib.hid heb
  have HY : Hid (Y = ((w1.alloc (.cells #[Value.int .u8 1] 5)).alloc (.cells #[Value.int .u8 2] 5)).alloc (.cells (enC ea ++ enC eb).toArray 42)) := by show _ = _; rw [hY, hY2, hY1]
  clear hb hH hB HH HVX hea heb hY1 hY2 hY hb1 hb2 hb3 hs1 hs2 hoka hokb hEA hbY hev hfold
  unfold ptr at HPA ⊢
  go_wp2_with fail
  rw [← HE1.out, ← HE2.out, ← HY.out]
  clear HE1 HE2 HY bs b1 b2
  refine HPA.out.mono ?_
  rintro _ w2 ⟨T2, rfl, hI, hm⟩
  obtain ⟨c2, hc2, hH2⟩ := hm.hs
  obtain ⟨p2, hp2⟩ := val_ptr nd hm.ms
  have HP2 := Lib.hid hp2
  have HI2 := Lib.hid hI
  have HM2 := Lib.hid hm.ms
  have HH2 := Lib.hid hH2
  have HC2 := Lib.hid hc2
  have HB2 := Lib.hid (keep_new HBY.out HN1.out hm.keep)
  have HV2 := Lib.hid (HVY.out.hs HHY.out hm.keep)
  rw [hp2]
  clear hI hm hc2 hH2 hp2 HPA HBY HHY HVY
  have b0 := bldKey_none
  have HR := Lib.hid (rm.remove w2 b 256 c2 [E8a, E9b] T2 z26 HH2.out (by have := HC2.out; omega) HV2.out HM2.out HI2.out (show 2 ≤ 100000 by decide) rfl)
  rw [has_a, rm_a, HP2.out] at HR
  unfold ptr at HR
  go_wp2_with fail
  refine HR.out.mono ?_
  rintro _ w3 ⟨T3, rfl, hI, hm, _⟩
  obtain ⟨v3, hT3⟩ := leaf_of hI
  subst hT3
  obtain ⟨p3, hp3⟩ : ∃ p, v3 = .pointer p := val_ptr nd hm.ms
  subst hp3
  obtain ⟨c3, hc3, hH3⟩ := hm.hs
  have HM3 := Lib.hid hm.ms
  have HT3 := Lib.hid (nd.hs HM2.out HH2.out hm.keep)
  have HH3 := Lib.hid hH3
  have HC3 : Hid (c3 ≤ 3000) := by show _ ≤ _; have := HC2.out; omega
  have HB3 := Lib.hid (keep_new HB2.out HN1.out hm.keep)
  have HV3 := Lib.hid (HV2.out.hs HH2.out hm.keep)
  rw [show (Tv.leaf (.pointer p3) E9b).val = .pointer p3 from rfl]
  clear hI hm hc3 hH3 HR HM2 HH2 HB2 HV2 b0
  have bj := bldKey_1k
  have HR := Lib.hid (rm.remove w3 b 256 c3 [E8a, E9b] T2 k1k HH3.out (by have := HC3.out; omega) HV3.out HT3.out HI2.out (show 2 ≤ 100000 by decide) rfl)
  rw [has_1, HP2.out] at HR
  unfold ptr at HR
  go_wp2_with fail
  refine HR.out.mono ?_
  rintro _ w4 ⟨T4, rfl, _, hm, hno⟩
  obtain ⟨rfl, hH4⟩ := hno trivial
  have HM4 := Lib.hid (nd.hs HM3.out HH3.out hm.keep)
  have HT4 := Lib.hid hm.ms
  have HH4 := Lib.hid hH4
  have HB4 := Lib.hid (keep_new HB3.out HN1.out hm.keep)
  have HV4 := Lib.hid (HV3.out.hs HH3.out hm.keep)
  rw [HP2.out]
  clear hm hno hH4 HR HM3 HT3 HH3 HB3 HV3 bj
  have b0 := bldKey_none
  have bq := bsK_alive
  obtain ⟨Z, hZ⟩ : ∃ Z, Z = w4.alloc (.cells (bA (k64 ++ (z26 ++ k64))) 24) := ⟨_, rfl⟩
  have hbZ : Below w4.heap.size w4 Z := by rw [hZ]; exact (Below.refl _ _).alloc (Nat.le_refl _) _
  have hks : KS Z (some ⟨w4.heap.size, 0, none⟩) [k64, z26, k64] := by rw [hZ]; exact ks_alive w4 _
  have HR := Lib.hid (rm.all Z b 256 c3 [E8a, E9b] T4 (some ⟨w4.heap.size, 0, none⟩) 3 [k64, z26, k64] (HH4.out.keep (Keep.of_below (L := fun _ => False) hbZ) fun h => h) (by have := HC3.out; omega) (HV4.out.below hbZ) (nd.below HT4.out hbZ) HI2.out (show 2 ≤ 10000 by decide) hks (show 3 ≤ 20 by decide))
  rw [cnt_a, rms_a, HP2.out, show ([k64, z26, k64] : List (List UInt8)).length = 3 from rfl] at HR
  unfold ptr at HR
  have HHZ := Lib.hid (HH4.out.keep (Keep.of_below (L := fun _ => False) hbZ) fun h => h)
  have HBZ := Lib.hid (HB4.out.trans (hbZ.mono HB4.out.size))
  have HMZ := Lib.hid (nd.below HM4.out hbZ)
  have HZ := Lib.hid hZ
  clear hZ hbZ hks HM4 HT4 HH4 HB4 HV4
  go_wp2_with fail
  rw [← HZ.out]
  clear HZ bq
  refine HR.out.mono ?_
  rintro _ w5 ⟨T5, rfl, hI, hm⟩
  have hT5 := nil_of hI
  subst hT5
  have HM5 := Lib.hid (nd.hs HMZ.out HHZ.out hm.keep)
  have HB5 := Lib.hid (keep_new HBZ.out HN1.out hm.keep)
  rw [show (Tv.nil).val = .pointer none from rfl]
  clear hI hm HR HMZ HHZ HBZ
  have HK := Lib.hid (nd.kind w5 256 _ HM5.out)
  rw [show (Tv.leaf (.pointer p3) E9b).val = .pointer p3 from rfl, show kindT (Tv.leaf (.pointer p3) E9b).tr = 1 from rfl] at HK
  go_wp2_with fail
  refine HK.out.mono ?_
  rintro _ w6 ⟨rfl, hB⟩
  have HB6 := Lib.hid (HB5.out.trans (hB.mono HB5.out.size))
  have HEN := Lib.hid (nd.entry w6 256 _ (nd.below HM5.out hB))
  rw [show (Tv.leaf (.pointer p3) E9b).val = .pointer p3 from rfl, show entT (Tv.leaf (.pointer p3) E9b).tr = E9b from rfl] at HEN
  clear hB HK HM5 HB5
  go_wp2_with fail
  refine HEN.out.mono ?_
  rintro _ w7 ⟨A7, c7, rfl, _, hB⟩
  have HB7 := Lib.hid (HB6.out.trans (hB.mono HB6.out.size))
  have fk : ∀ w, (Instr.field 42 (.agg (enC ⟨E9b.k, A7, E9b.v, c7⟩).toArray) 0).run Tryd.prog w = .ok (.agg (bA k64)) w := fun w => field_entryKey ⟨E9b.k, A7, E9b.v, c7⟩ rfl w
  have ek : ∀ p q w, eqA .eql 24 p q w (.agg (bA k64)) (.agg (bA k64)) = .ok (.value (.bool true)) w := fun p q w => by rw [eqKey _ _ rfl rfl, decide_eq_true rfl]
  have ep := eql_ptr p2
  clear hB HEN HB6
  go_wp2_with fail
  go_ret
  exact ⟨rfl, HB7.out⟩
end Go.Proofs.YtjhpnlnghaljaaaDoor

/- The walk of RemoveRemoves over contracts. -/
namespace Go.Proofs.YtjhpnlnghaljaaaDoor
open Go.RowKit

theorem has_get (es : List En) (k : List UInt8) : (getE es k).isSome = hasK (es.map En.ent) k := by
  unfold getE hasK
  induction es with
  | nil => rfl
  | cons x r ih =>
    rw [List.find?_cons, List.map_cons, List.any_cons]
    by_cases h : x.k = k
    · rw [show decide (x.k = k) = true from decide_eq_true h, show decide (x.ent.k = k) = true from decide_eq_true h]; rfl
    · rw [show decide (x.k = k) = false from decide_eq_false h, show decide (x.ent.k = k) = false from decide_eq_false h, Bool.false_or]; exact ih
theorem rmE_mem {es : List En} {k : List UInt8} {e : En} (h : e ∈ rmE es k) : e ∈ es := (List.mem_filter.1 h).1
set_option maxHeartbeats 16000000 in
set_option maxRecDepth 100000 in
theorem rems_in {M : World → Int → Tv → Prop} (nd : NdV M) (fv : FnV M) (pv : PtV M) (rm : RmV M) (n : Int) (A : Option Addr) (c : Nat) (es : List En) (k : List UInt8) (hk : k.length = 32) (W : World) (hA : EA W A es) (hl : es.length ≤ 12) (hvl : ∀ e ∈ es, e.v.length ≤ 1000) (hf : fewK (es.map En.ent) = true) (hvx : Vars W) (h0 : 0 ≤ n) (h1 : n ≤ 256) :
    Calls Tryd.prog 3 #[.int .i64 n, .slice A es.length c, .agg (bA k)] W (Aye W) := by
  obtain ⟨X, hX⟩ : ∃ X, X = W.alloc (.cells (bA k) 24) := ⟨_, rfl⟩
  have hb0 : Below W.heap.size W X := by rw [hX]; exact (Below.refl _ _).alloc (Nat.le_refl _) _
  have hr0 : RowB X W.heap.size 24 k := by rw [hX]; exact RowB.alloc W k _
  have hs0 : W.heap.size < X.heap.size := by rw [hX]; simp
  have HR0 := Lib.hid hr0
  have HS0 := Lib.hid hs0
  have HK := Lib.hid hk
  clear hr0 hs0
  have HX := Lib.hid hX
  have HB0 := Lib.hid hb0
  have HT := Lib.hid (tree_in nd n A c es X (hA.below hb0) hl hvl hf (hvx.below hb0) h0 h1)
  have HVE : Hid (∀ e ∈ ofE es, e.v.length ≤ 1000) := fun e he => hvl e (ofE_mem he)
  have HLE : Hid ((ofE es).length ≤ 12) := Nat.le_trans (ofE_len es) hl
  clear hA hvl hf hvx hX hb0
  go_enter Tryd.func3, Tryd.ntmps3
  go_wp2_with fail
  rw [← HX.out]
  clear HX
  refine HT.out.mono ?_
  rintro _ w2 ⟨A2, c2, T, rfl, hc2, hI, hF⟩
  have HI := Lib.hid hI
  have HF2 := Lib.hid hF
  obtain ⟨O, hO⟩ : ∃ O, O = ofE es := ⟨_, rfl⟩
  rw [← hO] at HI HF2 HVE HLE ⊢
  obtain ⟨pT, hpT⟩ := val_ptr nd hF.ms
  have HPT := Lib.hid hpT
  rw [hpT]
  have HH := Lib.hid (hash_in n w2 h0 h1)
  clear hc2 hI hF HT hO hpT
  go_wp2_with fail
  refine HH.out.mono ?_
  rintro _ w3 ⟨b, rfl, hbn, hH, hB⟩
  have HQ3 : Hid (Tf M X n A2 O T b 0 w3) := ⟨HF2.out.below nd hB, ⟨0, Nat.le_refl _, hH⟩, Nat.le_trans HF2.out.bel.size hbn⟩
  clear hH hbn hB HH HF2
  unfold ptr
  have LK : Hid (∀ q, Keep (fun i => i = b) w3 q → ldA 24 q (.pointer (some ⟨W.heap.size, 0, none⟩)) = .ok (.value (.agg (bA k))) q) := fun q hq => by
    have h1 : RowB q W.heap.size 24 k := hq.heap (HR0.out.below HQ3.out.fs.bel) (by have := HS0.out; have := HQ3.out.new; show W.heap.size ≠ b; omega)
    exact h1.ldKey HK.out
  have lk := LK.out w3 (Keep.refl _ _)
  obtain ⟨m3, hm3, hh3⟩ := HQ3.out.hs
  have HR := Lib.hid (rm.remove w3 b n m3 (O.map En.ent) T k hh3 (by omega) HQ3.out.fs.vars HQ3.out.fs.ms HI.out (by rw [List.length_map]; have := HLE.out; omega) HK.out)
  have HHS := Lib.hid (has_get O k)
  obtain ⟨hs, hhs⟩ : ∃ hs, hs = hasK (O.map En.ent) k := ⟨_, rfl⟩
  rw [HPT.out, ← hhs] at HR
  rw [← hhs] at HHS
  unfold ptr at HR
  have HM3 : Hid (m3 ≤ 0) := hm3
  clear hm3 hh3 hhs
  go_wp2_with fail
  refine HR.out.mono ?_
  rintro _ w4 ⟨T', rfl, hI, hm, _⟩
  have HI' := Lib.hid hI
  have HM4 := Lib.hid hm.ms
  have HK4 := Lib.hid hm.keep
  have HQ4 : Hid (Tf M X n A2 O T b 1000 w4) := HQ3.out.made nd hm.keep (by obtain ⟨c5, h5, h6⟩ := hm.hs; exact ⟨c5, by have := HM3.out; omega, h6⟩)
  obtain ⟨pN, hpN⟩ := val_ptr nd hm.ms
  rw [hpN]
  have HPN := Lib.hid hpN
  clear hI hm hpN HR lk
  have lk := LK.out w4 HK4.out
  have HG := Lib.hid (get7_c A2 c2 O k w4 HQ4.out.fs.ea (by have := HLE.out; omega) HK.out)
  rw [HHS.out] at HG
  obtain ⟨gv, hgv⟩ : ∃ gv, gv = getVal (getE O k) := ⟨_, rfl⟩
  rw [← hgv] at HG
  clear hgv
  go_wp2_with fail
  refine HG.out.mono ?_
  rintro _ w5 ⟨rfl, hB⟩
  have HQ5 := Lib.hid (HQ4.out.below nd hB)
  have HM5 := Lib.hid (nd.below HM4.out hB)
  have HK5 := Lib.hid (HK4.out.trans (Keep.of_below hB))
  clear hB HG HQ4 HM4 HK4 HQ3 lk
  have HAL := Lib.hid (alive10_c nd pv rm w5 HQ5.out.fs.vars)
  go_wp2_with fail
  refine HAL.out.mono ?_
  rintro _ w6 ⟨rfl, hB⟩
  have HQ6 := Lib.hid (HQ5.out.below nd hB)
  have HM6 := Lib.hid (nd.below HM5.out hB)
  have HK6 := Lib.hid (HK5.out.trans (Keep.of_below hB))
  have lk := LK.out w6 HK6.out
  have HRM := Lib.hid (remove7_c A2 c2 O k w6 HQ6.out.fs.ea (by have := HLE.out; omega) HK.out)
  have qh : (hs == hs) = true := beq_self_eq_true hs
  clear hB HAL HQ5 HM5 HK5
  go_wp2_with fail
  refine HRM.out.mono ?_
  rintro _ w7 ⟨v7, rfl, hO7, hB⟩
  have HQ7 := Lib.hid (HQ6.out.below nd hB)
  have HM7 := Lib.hid (nd.below HM6.out hB)
  obtain ⟨A7, c7, rfl, hc7, hE7⟩ := hO7.ea (fun e he => (HQ6.out.fs.ea.mem e (rmE_mem he)).below hB)
  have HE7 := Lib.hid hE7
  obtain ⟨m7, hm7, hh7⟩ := HQ7.out.hs
  have HIS := Lib.hid (is_c nd fv w7 b n m7 T' A7 c7 (rmE O k) hh7 (by omega) HQ7.out.fs.vars HM7.out (by rw [rmE_ent]; exact HI'.out) HE7.out (by have := rmE_len O k; have := HLE.out; omega) (fun e he => HVE.out e (rmE_mem he)))
  rw [HPN.out] at HIS
  unfold ptr at HIS
  have HML7 : Hid (m7 ≤ 1000) := hm7
  clear hO7 hc7 hE7 hB hm7 hh7 HRM HQ6 HM6 HK6 lk qh
  go_wp2_with fail
  refine HIS.out.mono ?_
  rintro _ w8 ⟨rfl, c8, hc8, hh8, hk8⟩
  have HQ8 := Lib.hid (HQ7.out.made nd hk8 ⟨c8, Nat.le_refl _, hh8⟩)
  have HC8 : Hid (c8 ≤ 1001) := by
    show _ ≤ _
    have h := HML7.out
    omega
  have HIS2 := Lib.hid (is_c nd fv w8 b n c8 T A2 c2 O hh8 (by have := HC8.out; omega) HQ8.out.fs.vars HQ8.out.fs.ms HI.out HQ8.out.fs.ea (by have := HLE.out; omega) HVE.out)
  rw [HPT.out] at HIS2
  unfold ptr at HIS2
  clear hc8 hh8 hk8 HIS HQ7 HM7
  go_wp2_with fail
  refine HIS2.out.mono ?_
  rintro _ w9 ⟨rfl, c9, hc9, hh9, hk9⟩
  have HQ9 := Lib.hid (HQ8.out.made nd hk9 ⟨c9, Nat.le_refl _, hh9⟩)
  clear hc9 hh9 hk9 HIS2 HQ8
  go_wp2_with fail
  go_ret
  exact ⟨rfl, HB0.out.trans (HQ9.out.fs.bel.mono HB0.out.size)⟩
set_option maxHeartbeats 16000000 in
set_option maxRecDepth 100000 in
/-- Other bits, or entries that are not few: alive. -/
theorem rems_out {M : World → Int → Tv → Prop} (nd : NdV M) (pv : PtV M) (rm : RmV M) (n : Int) (A : Option Addr) (c : Nat) (es : List En) (k : List UInt8) (W : World) (hA : EA W A es) (hvx : Vars W) (h : (n < 0 ∨ 256 < n) ∨ fewK (es.map En.ent) = false) :
    Calls Tryd.prog 3 #[.int .i64 n, .slice A es.length c, .agg (bA k)] W (Aye W) := by
  obtain ⟨X, hX⟩ : ∃ X, X = W.alloc (.cells (bA k) 24) := ⟨_, rfl⟩
  have hb0 : Below W.heap.size W X := by rw [hX]; exact (Below.refl _ _).alloc (Nat.le_refl _) _
  have HX := Lib.hid hX
  have HB0 := Lib.hid hb0
  have HVX := Lib.hid (hvx.below hb0)
  have HT := Lib.hid (tree_out n A c es X (hA.below hb0) h)
  have HAL := Lib.hid (fun w h => alive10_c nd pv rm w h)
  clear hA hvx h hX hb0
  go_enter Tryd.func3, Tryd.ntmps3
  go_wp2_with fail
  rw [← HX.out]
  clear HX
  refine HT.out.mono ?_
  rintro _ w2 ⟨rfl, hB⟩
  have HB := Lib.hid hB
  clear hB HT
  go_wp2_with fail
  refine (hash_any n w2).mono ?_
  rintro _ w3 ⟨p, rfl, hB⟩
  have HB3 := Lib.hid (HB.out.trans (hB.mono HB.out.size))
  clear hB HB
  go_wp2_with fail
  refine (HAL.out w3 (HVX.out.below HB3.out)).mono ?_
  rintro _ w4 ⟨rfl, hB⟩
  have HB4 := Lib.hid (HB3.out.trans (hB.mono HB3.out.size))
  clear hB
  go_wp2_with fail
  go_ret
  exact ⟨rfl, HB0.out.trans (HB4.out.mono HB0.out.size)⟩
end Go.Proofs.YtjhpnlnghaljaaaDoor

/- The walk of RemoveKeeps over contracts. -/
namespace Go.Proofs.YtjhpnlnghaljaaaDoor
open Go.RowKit

set_option maxHeartbeats 16000000 in
set_option maxRecDepth 100000 in
theorem keeps_yes {M : World → Int → Tv → Prop} (nd : NdV M) (pv : PtV M) (rm : RmV M) (n : Int) (A : Option Addr) (c : Nat) (es : List En) (k : List UInt8) (hk : k.length = 32) (W : World) (hA : EA W A es) (hl : es.length ≤ 12) (hvl : ∀ e ∈ es, e.v.length ≤ 1000) (hf : fewK (es.map En.ent) = true) (hvx : Vars W) (h0 : 0 ≤ n) (h1 : n ≤ 256) (hhas : hasK ((ofE es).map En.ent) k = true) :
    Calls Tryd.prog 4 #[.int .i64 n, .slice A es.length c, .agg (bA k)] W (Aye W) := by
  obtain ⟨X, hX⟩ : ∃ X, X = W.alloc (.cells (bA k) 24) := ⟨_, rfl⟩
  have hb0 : Below W.heap.size W X := by rw [hX]; exact (Below.refl _ _).alloc (Nat.le_refl _) _
  have hr0 : RowB X W.heap.size 24 k := by rw [hX]; exact RowB.alloc W k _
  have hs0 : W.heap.size < X.heap.size := by rw [hX]; simp
  have HR0 := Lib.hid hr0
  have HS0 := Lib.hid hs0
  have HK := Lib.hid hk
  clear hr0 hs0
  have HX := Lib.hid hX
  have HB0 := Lib.hid hb0
  have HT := Lib.hid (tree_in nd n A c es X (hA.below hb0) hl hvl hf (hvx.below hb0) h0 h1)
  have HHAS := Lib.hid hhas
  have HVE : Hid (∀ e ∈ ofE es, e.v.length ≤ 1000) := fun e he => hvl e (ofE_mem he)
  have HLE : Hid ((ofE es).length ≤ 12) := Nat.le_trans (ofE_len es) hl
  clear hA hvl hf hvx hX hb0 hhas
  go_enter Tryd.func4, Tryd.ntmps4
  go_wp2_with fail
  rw [← HX.out]
  clear HX
  refine HT.out.mono ?_
  rintro _ w2 ⟨A2, c2, T, rfl, hc2, hI, hF⟩
  have HI := Lib.hid hI
  have HF2 := Lib.hid hF
  obtain ⟨O, hO⟩ : ∃ O, O = ofE es := ⟨_, rfl⟩
  rw [← hO] at HI HF2 HVE HLE HHAS ⊢
  obtain ⟨pT, hpT⟩ := val_ptr nd hF.ms
  have HPT := Lib.hid hpT
  rw [hpT]
  have HH := Lib.hid (hash_in n w2 h0 h1)
  clear hc2 hI hF HT hO hpT
  go_wp2_with fail
  refine HH.out.mono ?_
  rintro _ w3 ⟨b, rfl, hbn, hH, hB⟩
  have HQ3 : Hid (Tf M X n A2 O T b 0 w3) := ⟨HF2.out.below nd hB, ⟨0, Nat.le_refl _, hH⟩, Nat.le_trans HF2.out.bel.size hbn⟩
  clear hH hbn hB HH HF2
  unfold ptr
  have LK : Hid (∀ q, Keep (fun i => i = b) w3 q → ldA 24 q (.pointer (some ⟨W.heap.size, 0, none⟩)) = .ok (.value (.agg (bA k))) q) := fun q hq => by
    have h1 : RowB q W.heap.size 24 k := hq.heap (HR0.out.below HQ3.out.fs.bel) (by have := HS0.out; have := HQ3.out.new; show W.heap.size ≠ b; omega)
    exact h1.ldKey HK.out
  have lk := LK.out w3 (Keep.refl _ _)
  have HG := Lib.hid (get7_c A2 c2 O k w3 HQ3.out.fs.ea (by have := HLE.out; omega) HK.out)
  have HHS := Lib.hid (has_get O k)
  obtain ⟨gv, hgv⟩ : ∃ gv, gv = getVal (getE O k) := ⟨_, rfl⟩
  rw [HHS.out, HHAS.out, ← hgv] at HG
  clear hgv
  go_wp2_with fail
  refine HG.out.mono ?_
  rintro _ w4 ⟨rfl, hB⟩
  have HQ4 := Lib.hid (HQ3.out.below nd hB)
  have HK4 : Hid (Keep (fun i => i = b) w3 w4) := Keep.of_below hB
  clear hB HG HQ3 lk
  have HAL := Lib.hid (alive10_c nd pv rm w4 HQ4.out.fs.vars)
  go_wp2_with fail
  refine HAL.out.mono ?_
  rintro _ w5 ⟨rfl, hB⟩
  have HQ5 := Lib.hid (HQ4.out.below nd hB)
  clear hB HAL HQ4
  go_wp2_with fail
  go_ret
  exact ⟨rfl, HB0.out.trans (HQ5.out.fs.bel.mono HB0.out.size)⟩
set_option maxHeartbeats 16000000 in
set_option maxRecDepth 100000 in
theorem keeps_no {M : World → Int → Tv → Prop} (nd : NdV M) (pv : PtV M) (rm : RmV M) (n : Int) (A : Option Addr) (c : Nat) (es : List En) (k : List UInt8) (hk : k.length = 32) (W : World) (hA : EA W A es) (hl : es.length ≤ 12) (hvl : ∀ e ∈ es, e.v.length ≤ 1000) (hf : fewK (es.map En.ent) = true) (hvx : Vars W) (h0 : 0 ≤ n) (h1 : n ≤ 256) (hhas : hasK ((ofE es).map En.ent) k = false) :
    Calls Tryd.prog 4 #[.int .i64 n, .slice A es.length c, .agg (bA k)] W (Aye W) := by
  obtain ⟨X, hX⟩ : ∃ X, X = W.alloc (.cells (bA k) 24) := ⟨_, rfl⟩
  have hb0 : Below W.heap.size W X := by rw [hX]; exact (Below.refl _ _).alloc (Nat.le_refl _) _
  have hr0 : RowB X W.heap.size 24 k := by rw [hX]; exact RowB.alloc W k _
  have hs0 : W.heap.size < X.heap.size := by rw [hX]; simp
  have HR0 := Lib.hid hr0
  have HS0 := Lib.hid hs0
  have HK := Lib.hid hk
  clear hr0 hs0
  have HX := Lib.hid hX
  have HB0 := Lib.hid hb0
  have HT := Lib.hid (tree_in nd n A c es X (hA.below hb0) hl hvl hf (hvx.below hb0) h0 h1)
  have HHAS := Lib.hid hhas
  have HVE : Hid (∀ e ∈ ofE es, e.v.length ≤ 1000) := fun e he => hvl e (ofE_mem he)
  have HLE : Hid ((ofE es).length ≤ 12) := Nat.le_trans (ofE_len es) hl
  clear hA hvl hf hvx hX hb0 hhas
  go_enter Tryd.func4, Tryd.ntmps4
  go_wp2_with fail
  rw [← HX.out]
  clear HX
  refine HT.out.mono ?_
  rintro _ w2 ⟨A2, c2, T, rfl, hc2, hI, hF⟩
  have HI := Lib.hid hI
  have HF2 := Lib.hid hF
  obtain ⟨O, hO⟩ : ∃ O, O = ofE es := ⟨_, rfl⟩
  rw [← hO] at HI HF2 HVE HLE HHAS ⊢
  obtain ⟨pT, hpT⟩ := val_ptr nd hF.ms
  have HPT := Lib.hid hpT
  rw [hpT]
  have HH := Lib.hid (hash_in n w2 h0 h1)
  clear hc2 hI hF HT hO hpT
  go_wp2_with fail
  refine HH.out.mono ?_
  rintro _ w3 ⟨b, rfl, hbn, hH, hB⟩
  have HQ3 : Hid (Tf M X n A2 O T b 0 w3) := ⟨HF2.out.below nd hB, ⟨0, Nat.le_refl _, hH⟩, Nat.le_trans HF2.out.bel.size hbn⟩
  clear hH hbn hB HH HF2
  unfold ptr
  have LK : Hid (∀ q, Keep (fun i => i = b) w3 q → ldA 24 q (.pointer (some ⟨W.heap.size, 0, none⟩)) = .ok (.value (.agg (bA k))) q) := fun q hq => by
    have h1 : RowB q W.heap.size 24 k := hq.heap (HR0.out.below HQ3.out.fs.bel) (by have := HS0.out; have := HQ3.out.new; show W.heap.size ≠ b; omega)
    exact h1.ldKey HK.out
  have lk := LK.out w3 (Keep.refl _ _)
  have HG := Lib.hid (get7_c A2 c2 O k w3 HQ3.out.fs.ea (by have := HLE.out; omega) HK.out)
  have HHS := Lib.hid (has_get O k)
  obtain ⟨gv, hgv⟩ : ∃ gv, gv = getVal (getE O k) := ⟨_, rfl⟩
  rw [HHS.out, HHAS.out, ← hgv] at HG
  clear hgv
  go_wp2_with fail
  refine HG.out.mono ?_
  rintro _ w4 ⟨rfl, hB⟩
  have HQ4 := Lib.hid (HQ3.out.below nd hB)
  have HK4 : Hid (Keep (fun i => i = b) w3 w4) := Keep.of_below hB
  clear hB HG HQ3 lk
  obtain ⟨m4, hm4, hh4⟩ := HQ4.out.hs
  have HFK := Lib.hid (fork_c b n m4 w4 hh4)
  unfold ptr at HFK
  clear hm4 hh4
  go_wp2_with fail
  refine HFK.out.mono ?_
  rintro _ w5 ⟨b2, rfl, hb2, hh5, hB⟩
  have HQ5 := Lib.hid (HQ4.out.below nd hB)
  have HK5 := Lib.hid (HK4.out.trans (Keep.of_below hB))
  have HB2 := Lib.hid (Nat.le_trans HQ4.out.fs.bel.size hb2)
  have lk := LK.out w5 HK5.out
  have HR := Lib.hid (rm.remove w5 b2 n 0 (O.map En.ent) T k hh5 (by decide) HQ5.out.fs.vars HQ5.out.fs.ms HI.out (by rw [List.length_map]; have := HLE.out; omega) HK.out)
  have HH5 := Lib.hid hh5
  rw [HPT.out, HHAS.out] at HR
  unfold ptr at HR
  clear hb2 hh5 hB HFK HQ4 HK4
  go_wp2_with fail
  refine HR.out.mono ?_
  rintro _ w6 ⟨T', rfl, _, hm, hno⟩
  obtain ⟨rfl, hH6⟩ := hno trivial
  rw [HPT.out]
  have HH6 := Lib.hid hH6
  have HV6 := Lib.hid (HQ5.out.fs.vars.hs HH5.out hm.keep)
  have HB6 := Lib.hid (keep_new HQ5.out.fs.bel HB2.out hm.keep)
  clear hno hH6 hm HR lk HQ5 HK5
  have HAL := Lib.hid (alive10_c nd pv rm w6 HV6.out)
  go_wp2_with fail
  refine HAL.out.mono ?_
  rintro _ w7 ⟨rfl, hB⟩
  have HB7 := Lib.hid (HB6.out.trans (hB.mono HB6.out.size))
  have HCL := Lib.hid (calls_c b2 n 0 w7 (HH6.out.keep (Keep.of_below (L := fun _ => False) hB) fun h => h))
  have ep := eql_ptr pT
  unfold ptr at HCL
  clear hB HAL HB6 HV6
  go_wp2_with fail
  refine HCL.out.mono ?_
  rintro _ _ ⟨rfl, rfl⟩
  clear HCL ep
  go_wp2_with fail
  go_ret
  exact ⟨rfl, HB0.out.trans (HB7.out.mono HB0.out.size)⟩
set_option maxHeartbeats 16000000 in
set_option maxRecDepth 100000 in
/-- Other bits, or entries that are not few: alive. -/
theorem keeps_out {M : World → Int → Tv → Prop} (nd : NdV M) (pv : PtV M) (rm : RmV M) (n : Int) (A : Option Addr) (c : Nat) (es : List En) (k : List UInt8) (W : World) (hA : EA W A es) (hvx : Vars W) (h : (n < 0 ∨ 256 < n) ∨ fewK (es.map En.ent) = false) :
    Calls Tryd.prog 4 #[.int .i64 n, .slice A es.length c, .agg (bA k)] W (Aye W) := by
  obtain ⟨X, hX⟩ : ∃ X, X = W.alloc (.cells (bA k) 24) := ⟨_, rfl⟩
  have hb0 : Below W.heap.size W X := by rw [hX]; exact (Below.refl _ _).alloc (Nat.le_refl _) _
  have HX := Lib.hid hX
  have HB0 := Lib.hid hb0
  have HVX := Lib.hid (hvx.below hb0)
  have HT := Lib.hid (tree_out n A c es X (hA.below hb0) h)
  have HAL := Lib.hid (fun w h => alive10_c nd pv rm w h)
  clear hA hvx h hX hb0
  go_enter Tryd.func4, Tryd.ntmps4
  go_wp2_with fail
  rw [← HX.out]
  clear HX
  refine HT.out.mono ?_
  rintro _ w2 ⟨rfl, hB⟩
  have HB := Lib.hid hB
  clear hB HT
  go_wp2_with fail
  refine (hash_any n w2).mono ?_
  rintro _ w3 ⟨p, rfl, hB⟩
  have HB3 := Lib.hid (HB.out.trans (hB.mono HB.out.size))
  clear hB HB
  go_wp2_with fail
  refine (HAL.out w3 (HVX.out.below HB3.out)).mono ?_
  rintro _ w4 ⟨rfl, hB⟩
  have HB4 := Lib.hid (HB3.out.trans (hB.mono HB3.out.size))
  clear hB
  go_wp2_with fail
  go_ret
  exact ⟨rfl, HB0.out.trans (HB4.out.mono HB0.out.size)⟩
end Go.Proofs.YtjhpnlnghaljaaaDoor

/- The walk of RemoveAll over contracts. -/
namespace Go.Proofs.YtjhpnlnghaljaaaDoor
open Go.RowKit

theorem KS.ld {w : World} {g o : Nat} {k : List UInt8} (h : w.rangeAt g o (k.map bv)) (hk : k.length = 32) : ldA 24 w (.pointer (some ⟨g, o, none⟩)) = .ok (.value (.agg (bA k))) w :=
  ldA_of (t := 24) (w := w) (b := g) (o := o) (cs := k.map bv) h Tryd.underlying24 (by rw [List.length_map, hk]; exact infoKey)
theorem Hs.ks {w w' : World} {b : Nat} {n : Int} {c : Nat} {A : Option Addr} {ks : List (List UInt8)} (h : Hs w b n c) (hA : KS w A ks) (k : Keep (fun i => i = b) w w') : KS w' A ks := fun i key hi => by
  obtain ⟨h1, g, o, rfl, h3⟩ := hA i key hi
  refine ⟨h1, g, o, rfl, fun j v hv => k.cellAt (h3 j v hv) fun e => ?_⟩
  have e3 : g = b := e
  subst e3
  have h4 := h3 j v hv
  rw [cell_of_cells h] at h4
  obtain ⟨y, hy, rfl⟩ : ∃ y, key[j]? = some y ∧ bv y = v := by
    rw [List.getElem?_map] at hv
    obtain ⟨y, hy, he⟩ := Option.map_eq_some_iff.1 hv
    exact ⟨y, hy, he⟩
  obtain ⟨q, hq⟩ : ∃ q, q = o + i * 32 + j := ⟨_, rfl⟩
  rw [← hq] at h4
  match q, h4 with
  | 0, h4 => cases h4
  | 1, h4 => cases h4
  | q + 2, h4 => simp at h4
theorem foldR_ent (ks : List (List UInt8)) : ∀ m : List En, (ks.foldl rmE m).map En.ent = ks.foldl rmK (m.map En.ent) := by
  induction ks with
  | nil => exact fun m => rfl
  | cons k r ih =>
    intro m
    rw [List.foldl_cons, List.foldl_cons, ih, rmE_ent]
theorem foldR_len (ks : List (List UInt8)) : ∀ m : List En, (ks.foldl rmE m).length ≤ m.length := by
  induction ks with
  | nil => exact fun m => Nat.le_refl _
  | cons k r ih => exact fun m => Nat.le_trans (ih _) (rmE_len m k)
theorem foldR_mem (ks : List (List UInt8)) : ∀ (m : List En) (e : En), e ∈ ks.foldl rmE m → e ∈ m := by
  induction ks with
  | nil => exact fun m e h => h
  | cons k r ih => exact fun m e h => rmE_mem (ih _ e h)
theorem foldR_take {ks : List (List UInt8)} {i : Nat} {k : List UInt8} (m : List En) (h : ks[i]? = some k) : (ks.take (i + 1)).foldl rmE m = rmE ((ks.take i).foldl rmE m) k := by
  obtain ⟨hi, rfl⟩ := List.getElem?_eq_some_iff.1 h
  rw [List.take_succ_eq_append_getElem hi, List.foldl_append]
  rfl
theorem cntK_drop {ks : List (List UInt8)} {i : Nat} {k : List UInt8} (l : List Ent) (h : ks[i]? = some k) : cntK l (ks.drop i) = (if hasK l k then 1 else 0) + cntK (rmK l k) (ks.drop (i + 1)) := by
  obtain ⟨hi, rfl⟩ := List.getElem?_eq_some_iff.1 h
  rw [List.drop_eq_getElem_cons hi]
  rfl
set_option maxHeartbeats 16000000 in
set_option maxRecDepth 100000 in
theorem refall10_c (A B : Option Addr) (c d : Nat) (m : List En) (ks : List (List UInt8)) (w : World) (hA : EA w A m) (hB : KS w B ks) (hn : m.length ≤ 1000) (hk : ks.length ≤ 20) (hs : (m.map En.ent).Pairwise (fun a b => a.k ≠ b.k)) :
    Calls Tryd.prog 21 #[.slice A m.length c, .slice B ks.length d] w fun e w' => ∃ A' c', e = .returned (.tuple #[.slice A' (ks.foldl rmE m).length c', .int .i64 (cntK (m.map En.ent) ks : Int)]) ∧ EA w' A' (ks.foldl rmE m) ∧ Below w.heap.size w w' := by
  have HA := Lib.hid hA
  have HB := Lib.hid hB
  have HS := Lib.hid hs
  have HN := Lib.hid hn
  have hk20 : ks.length ≤ 20 := hk
  clear hA hB hs hn hk
  go_enter Tryd.func21, Tryd.ntmps21
  go_wp2_with fail
  go_loopg [0, 6, 7] ks.length (fun gg mv nv iv wr => ∃ (i : Nat) (A' : Option Addr) (c' N : Nat) (P : List En), mv = .slice A' P.length c' ∧ nv = .int .i64 (N : Int) ∧ iv = .int .i64 (i : Int) ∧ i ≤ ks.length ∧ ks.length - i = gg ∧
    Hid (P = (ks.take i).foldl rmE m ∧ EA wr A' P ∧ N + cntK (P.map En.ent) (ks.drop i) = cntK (m.map En.ent) ks ∧ N ≤ i ∧ (P.map En.ent).Pairwise (fun a b => a.k ≠ b.k) ∧ P.length ≤ m.length ∧ Below w.heap.size w wr))
  case atStart => exact ⟨0, A, c, 0, m, rfl, rfl, rfl, by omega, by omega, rfl, HA.out, by simp, Nat.le_refl _, HS.out, Nat.le_refl _, Below.refl _ _⟩
  case round =>
    obtain ⟨i, A', c', N, P, rfl, rfl, rfl, hi, rfl, HR⟩ := hrel
    by_cases hlt : i < ks.length
    · have hd : decide (i < ks.length) = true := decide_eq_true hlt
      obtain ⟨h1, h2, h3, h4, h5, h6, h7⟩ := HR.out
      obtain ⟨k, hk⟩ : ∃ k, ks[i]? = some k := ⟨_, List.getElem?_eq_getElem hlt⟩
      obtain ⟨hkl, g, o, rfl, hr⟩ := (HB.out.below h7) i k hk
      have lk := KS.ld hr hkl
      have HRM := Lib.hid (remove7_c A' c' P k wr h2 (by have := HN.out; omega) hkl)
      have hlen := rmK_len_eq h5 k
      have HSTEP : Hid (rmE P k = (ks.take (i + 1)).foldl rmE m) := by show _ = _; rw [foldR_take m hk, ← h1]
      have hcd := cntK_drop (P.map En.ent) hk
      obtain ⟨x, hx⟩ : ∃ x, x = if hasK (P.map En.ent) k then 1 else 0 := ⟨_, rfl⟩
      rw [← hx] at hlen hcd
      rw [← rmE_ent, List.length_map, List.length_map] at hlen
      have hx1 : x ≤ 1 := by rw [hx]; split <;> omega
      have HCD : Hid (N + x + cntK ((rmE P k).map En.ent) (ks.drop (i + 1)) = cntK (m.map En.ent) ks) := by show _ = _; rw [rmE_ent]; omega
      have HE := Lib.hid h2
      have HP5 : Hid (((rmE P k).map En.ent).Pairwise (fun a b => a.k ≠ b.k)) := by show List.Pairwise _ _; rw [rmE_ent]; exact h5.filter _
      have HB7 := Lib.hid h7
      have HP6 := Lib.hid h6
      have HN4 := Lib.hid h4
      obtain ⟨R, hR⟩ : ∃ R, R = rmE P k := ⟨_, rfl⟩
      rw [← hR] at HRM hlen HSTEP HCD HP5
      have HRR := Lib.hid hR
      have p0 : (0 : Int) ≤ (i : Int) := by omega
      have p1 : (i : Int) < (ks.length : Int) := by omega
      have n0 : N ≤ 20 := by omega
      have q0 : P.length ≤ 1000 := by have := HN.out; omega
      have r0 : R.length ≤ 1000 := by omega
      have HLE := Lib.hid hlen
      have HX1 := Lib.hid hx1
      clear h1 h2 h3 h4 h5 h6 h7 hk hkl hr hcd hx hx1 hR hlen HR
      go_wp2_with fail
      refine HRM.out.mono ?_
      rintro _ w2 ⟨v2, rfl, hO2, hB⟩
      obtain ⟨A2, c2, rfl, _, hE2⟩ := hO2.ea (fun e he => (HE.out.mem e (rmE_mem (by rw [← HRR.out]; exact he))).below hB)
      have HE2 := Lib.hid hE2
      have HB2 := Lib.hid (HB7.out.trans (hB.mono HB7.out.size))
      clear hO2 hE2 hB HRM lk
      go_wp2_with fail
      go_roundg (ks.length - (i + 1))
      case measure => omega
      case rel =>
        have hl := HLE.out
        have hx1 := HX1.out
        have h4 := HN4.out
        have h6 := HP6.out
        exact ⟨i + 1, A2, c2, N + x, R, rfl, by go_num, by go_num, by omega, rfl, HSTEP.out, HE2.out, HCD.out, by omega, HP5.out, by omega, HB2.out⟩
    · obtain rfl : i = ks.length := by omega
      have hd : decide (ks.length < ks.length) = false := decide_eq_false (by omega)
      have HF : Hid (P = ks.foldl rmE m ∧ EA wr A' P ∧ N = cntK (m.map En.ent) ks ∧ Below w.heap.size w wr) := by
        obtain ⟨h1, h2, h3, _, _, _, h7⟩ := HR.out
        rw [List.take_length] at h1
        rw [List.drop_length] at h3
        exact ⟨h1, h2, h3, h7⟩
      clear HR
      go_wp2_with fail
      go_ret2
      obtain ⟨h1, h2, h3, h7⟩ := HF.out
      exact ⟨A', c', by rw [← h1, ← h3]; rfl, by rw [← h1]; exact h2, h7⟩
set_option maxHeartbeats 16000000 in
set_option maxRecDepth 100000 in
theorem rall_in {M : World → Int → Tv → Prop} (nd : NdV M) (fv : FnV M) (pv : PtV M) (rm : RmV M) (n : Int) (A : Option Addr) (c : Nat) (es : List En) (B : Option Addr) (d : Nat) (ks : List (List UInt8)) (W : World) (hA : EA W A es) (hl : es.length ≤ 12) (hvl : ∀ e ∈ es, e.v.length ≤ 1000) (hf : fewK (es.map En.ent) = true) (hvx : Vars W) (h0 : 0 ≤ n) (h1 : n ≤ 256) (hB : KS W B ks) (hkl : ks.length ≤ 20) :
    Calls Tryd.prog 6 #[.int .i64 n, .slice A es.length c, .slice B ks.length d] W (Aye W) := by
  obtain ⟨X, hX⟩ : ∃ X, X = W := ⟨_, rfl⟩
  have hb0 : Below W.heap.size W X := by rw [hX]; exact Below.refl _ _
  have HX := Lib.hid hX
  have HB0 := Lib.hid hb0
  have HT := Lib.hid (tree_in nd n A c es X (hA.below hb0) hl hvl hf (hvx.below hb0) h0 h1)
  have HKS := Lib.hid (hB.below hb0)
  have HKL := Lib.hid hkl
  have HVE : Hid (∀ e ∈ ofE es, e.v.length ≤ 1000) := fun e he => hvl e (ofE_mem he)
  have HLE : Hid ((ofE es).length ≤ 12) := Nat.le_trans (ofE_len es) hl
  clear hA hvl hf hvx hX hb0 hB hkl
  go_enter Tryd.func6, Tryd.ntmps6
  go_wp2_with fail
  rw [← HX.out]
  clear HX
  refine HT.out.mono ?_
  rintro _ w2 ⟨A2, c2, T, rfl, hc2, hI, hF⟩
  have HI := Lib.hid hI
  have HF2 := Lib.hid hF
  obtain ⟨O, hO⟩ : ∃ O, O = ofE es := ⟨_, rfl⟩
  rw [← hO] at HI HF2 HVE HLE ⊢
  obtain ⟨pT, hpT⟩ := val_ptr nd hF.ms
  have HPT := Lib.hid hpT
  rw [hpT]
  have HH := Lib.hid (hash_in n w2 h0 h1)
  clear hc2 hI hF HT hO hpT
  go_wp2_with fail
  refine HH.out.mono ?_
  rintro _ w3 ⟨b, rfl, hbn, hH, hB⟩
  have HQ3 : Hid (Tf M X n A2 O T b 0 w3) := ⟨HF2.out.below nd hB, ⟨0, Nat.le_refl _, hH⟩, Nat.le_trans HF2.out.bel.size hbn⟩
  clear hH hbn hB HH HF2
  unfold ptr
  have e1 : decide (20 < ks.length) = false := decide_eq_false (by have := HKL.out; omega)
  have e2 : decide (20 < (ks.length : Int)) = false := decide_eq_false (by have := HKL.out; omega)
  obtain ⟨m3, hm3, hh3⟩ := HQ3.out.hs
  have HR := Lib.hid (rm.all w3 b n m3 (O.map En.ent) T B d ks hh3 (by omega) HQ3.out.fs.vars HQ3.out.fs.ms HI.out (by rw [List.length_map]; have := HLE.out; omega) (HKS.out.below HQ3.out.fs.bel) HKL.out)
  have HH3 := Lib.hid hh3
  have HM3 : Hid (m3 ≤ 0) := hm3
  obtain ⟨N, hN⟩ : ∃ N, N = cntK (O.map En.ent) ks := ⟨_, rfl⟩
  rw [HPT.out, ← hN] at HR
  have HNN := Lib.hid hN
  unfold ptr at HR
  clear hm3 hh3 hN
  go_wp2_with fail
  refine HR.out.mono ?_
  rintro _ w4 ⟨T', rfl, hI, hm⟩
  have HI' := Lib.hid hI
  have HM4 := Lib.hid hm.ms
  have HKS4 := Lib.hid (HH3.out.ks (HKS.out.below HQ3.out.fs.bel) hm.keep)
  have HQ4 : Hid (Tf M X n A2 O T b 20000 w4) := HQ3.out.made nd hm.keep (by obtain ⟨c5, h5, h6⟩ := hm.hs; exact ⟨c5, by have := HM3.out; have := HKL.out; omega, h6⟩)
  obtain ⟨pN, hpN⟩ := val_ptr nd hm.ms
  rw [hpN]
  have HPN := Lib.hid hpN
  clear hI hm hpN HR HQ3 HH3 e1 e2
  have HRF := Lib.hid (refall10_c A2 B c2 d O ks w4 HQ4.out.fs.ea HKS4.out (by have := HLE.out; omega) HKL.out HI.out.sep.ne)
  rw [← HNN.out] at HRF
  go_wp2_with fail
  refine HRF.out.mono ?_
  rintro _ w5 ⟨A5, c5, rfl, hE5, hB⟩
  have HQ5 := Lib.hid (HQ4.out.below nd hB)
  have HM5 := Lib.hid (nd.below HM4.out hB)
  have HE5 := Lib.hid hE5
  clear hB hE5 HRF HQ4 HM4 HKS4
  have HAL := Lib.hid (alive10_c nd pv rm w5 HQ5.out.fs.vars)
  go_wp2_with fail
  refine HAL.out.mono ?_
  rintro _ w6 ⟨rfl, hB⟩
  have HQ6 := Lib.hid (HQ5.out.below nd hB)
  have HM6 := Lib.hid (nd.below HM5.out hB)
  have HE6 := Lib.hid (HE5.out.below hB)
  obtain ⟨m6, hm6, hh6⟩ := HQ6.out.hs
  have HIS := Lib.hid (is_c nd fv w6 b n m6 T' A5 c5 (ks.foldl rmE O) hh6 (by omega) HQ6.out.fs.vars HM6.out (by rw [foldR_ent]; exact HI'.out) HE6.out (by have := foldR_len ks O; have := HLE.out; omega) (fun e he => HVE.out e (foldR_mem ks O e he)))
  rw [HPN.out] at HIS
  unfold ptr at HIS
  have qn : ((N : Int) == (N : Int)) = true := beq_self_eq_true _
  clear hB HAL HQ5 HM5 hm6 hh6 HE5 HE6
  go_wp2_with fail
  refine HIS.out.mono ?_
  rintro _ w7 ⟨rfl, c7, hc7, hh7, hk7⟩
  have HQ7 := Lib.hid (HQ6.out.made nd hk7 ⟨c7, Nat.le_refl _, hh7⟩)
  clear hc7 hh7 hk7 HIS HQ6 HM6 qn
  go_wp2_with fail
  go_ret
  exact ⟨rfl, HB0.out.trans (HQ7.out.fs.bel.mono HB0.out.size)⟩
set_option maxHeartbeats 16000000 in
set_option maxRecDepth 100000 in
theorem rall_long {M : World → Int → Tv → Prop} (nd : NdV M) (pv : PtV M) (rm : RmV M) (n : Int) (A : Option Addr) (c : Nat) (es : List En) (B : Option Addr) (d : Nat) (ks : List (List UInt8)) (W : World) (hA : EA W A es) (hl : es.length ≤ 12) (hvl : ∀ e ∈ es, e.v.length ≤ 1000) (hf : fewK (es.map En.ent) = true) (hvx : Vars W) (h0 : 0 ≤ n) (h1 : n ≤ 256) (hkl : 20 < ks.length) :
    Calls Tryd.prog 6 #[.int .i64 n, .slice A es.length c, .slice B ks.length d] W (Aye W) := by
  obtain ⟨X, hX⟩ : ∃ X, X = W := ⟨_, rfl⟩
  have hb0 : Below W.heap.size W X := by rw [hX]; exact Below.refl _ _
  have HX := Lib.hid hX
  have HB0 := Lib.hid hb0
  have HT := Lib.hid (tree_in nd n A c es X (hA.below hb0) hl hvl hf (hvx.below hb0) h0 h1)
  have HKL := Lib.hid hkl
  have HVE : Hid (∀ e ∈ ofE es, e.v.length ≤ 1000) := fun e he => hvl e (ofE_mem he)
  have HLE : Hid ((ofE es).length ≤ 12) := Nat.le_trans (ofE_len es) hl
  clear hA hvl hf hvx hX hb0 hkl
  go_enter Tryd.func6, Tryd.ntmps6
  go_wp2_with fail
  rw [← HX.out]
  clear HX
  refine HT.out.mono ?_
  rintro _ w2 ⟨A2, c2, T, rfl, hc2, hI, hF⟩
  have HI := Lib.hid hI
  have HF2 := Lib.hid hF
  obtain ⟨O, hO⟩ : ∃ O, O = ofE es := ⟨_, rfl⟩
  rw [← hO] at HI HF2 HVE HLE ⊢
  obtain ⟨pT, hpT⟩ := val_ptr nd hF.ms
  have HPT := Lib.hid hpT
  rw [hpT]
  have HH := Lib.hid (hash_in n w2 h0 h1)
  clear hc2 hI hF HT hO hpT
  go_wp2_with fail
  refine HH.out.mono ?_
  rintro _ w3 ⟨b, rfl, hbn, hH, hB⟩
  have HQ3 : Hid (Tf M X n A2 O T b 0 w3) := ⟨HF2.out.below nd hB, ⟨0, Nat.le_refl _, hH⟩, Nat.le_trans HF2.out.bel.size hbn⟩
  clear hH hbn hB HH HF2
  unfold ptr
  have e1 : decide (20 < ks.length) = true := decide_eq_true HKL.out
  have e2 : decide (20 < (ks.length : Int)) = true := decide_eq_true (by have := HKL.out; omega)
  have HAL := Lib.hid (alive10_c nd pv rm w3 HQ3.out.fs.vars)
  go_wp2_with fail
  refine HAL.out.mono ?_
  rintro _ w4 ⟨rfl, hB⟩
  have HQ4 := Lib.hid (HQ3.out.below nd hB)
  clear hB HAL HQ3
  go_wp2_with fail
  go_ret
  exact ⟨rfl, HB0.out.trans (HQ4.out.fs.bel.mono HB0.out.size)⟩
set_option maxHeartbeats 16000000 in
set_option maxRecDepth 100000 in
/-- Other bits, or entries that are not few: alive. -/
theorem rall_out {M : World → Int → Tv → Prop} (nd : NdV M) (pv : PtV M) (rm : RmV M) (n : Int) (A : Option Addr) (c : Nat) (es : List En) (B : Option Addr) (d : Nat) (ks : List (List UInt8)) (W : World) (hA : EA W A es) (hvx : Vars W) (h : (n < 0 ∨ 256 < n) ∨ fewK (es.map En.ent) = false) :
    Calls Tryd.prog 6 #[.int .i64 n, .slice A es.length c, .slice B ks.length d] W (Aye W) := by
  obtain ⟨X, hX⟩ : ∃ X, X = W := ⟨_, rfl⟩
  have hb0 : Below W.heap.size W X := by rw [hX]; exact Below.refl _ _
  have HX := Lib.hid hX
  have HB0 := Lib.hid hb0
  have HVX := Lib.hid (hvx.below hb0)
  have HT := Lib.hid (tree_out n A c es X (hA.below hb0) h)
  have HAL := Lib.hid (fun w h => alive10_c nd pv rm w h)
  clear hA hvx h hX hb0
  go_enter Tryd.func6, Tryd.ntmps6
  go_wp2_with fail
  rw [← HX.out]
  clear HX
  refine HT.out.mono ?_
  rintro _ w2 ⟨rfl, hB⟩
  have HB := Lib.hid hB
  clear hB HT
  go_wp2_with fail
  refine (hash_any n w2).mono ?_
  rintro _ w3 ⟨p, rfl, hB⟩
  have HB3 := Lib.hid (HB.out.trans (hB.mono HB.out.size))
  clear hB HB
  go_wp2_with fail
  refine (HAL.out w3 (HVX.out.below HB3.out)).mono ?_
  rintro _ w4 ⟨rfl, hB⟩
  have HB4 := Lib.hid (HB3.out.trans (hB.mono HB3.out.size))
  clear hB
  go_wp2_with fail
  go_ret
  exact ⟨rfl, HB0.out.trans (HB4.out.mono HB0.out.size)⟩
end Go.Proofs.YtjhpnlnghaljaaaDoor

/- The walk of RemoveInverts over contracts. -/
namespace Go.Proofs.YtjhpnlnghaljaaaDoor
open Go.RowKit

theorem rem_tf {M : World → Int → Tv → Prop} (nd : NdV M) (rm : RmV M) {W q : World} {n : Int} {A : Option Addr} {m : List En} {T S : Tv} {b c : Nat} {l : List Ent} {k : List UInt8} {p : Option Addr} (h : Tf M W n A m T b c q) (hc : c ≤ 500000) (hS : M q n S) (hp : S.val = .pointer p) (hI : IsMap l S) (hl : l.length ≤ 1000) (hk : k.length = 32) :
    Calls Tryd.prog 11 #[.pointer (some ⟨b, 0, none⟩), .pointer p, .agg (bA k)] q fun x w' => ∃ S' p', x = .returned (.tuple #[.pointer p', .bool (hasK l k)]) ∧ S'.val = .pointer p' ∧ IsMap (rmK l k) S' ∧ M w' n S' ∧ Tf M W n A m T b (c + 1000) w' ∧ Keep (fun i => i = b) q w' := by
  obtain ⟨c', hc', hh⟩ := h.hs
  have := rm.remove q b n c' l S k hh (by omega) h.fs.vars hS hI (by omega) hk
  rw [hp] at this
  refine this.mono fun x w' ⟨S', hx, hI', hm, _⟩ => ?_
  obtain ⟨p', hp'⟩ := val_ptr nd hm.ms
  obtain ⟨d, hd, hhd⟩ := hm.hs
  exact ⟨S', p', by rw [hx, hp'], hp', hI', hm.ms, h.made nd hm.keep ⟨d, by omega, hhd⟩, hm.keep⟩
theorem back_perm {l : List Ent} (hs : l.Pairwise (fun a b => a.k ≠ b.k)) {e : Ent} (he : e ∈ l) : (putK (rmK l e.k) e).Perm l := by
  refine (putK_perm _ e).trans ?_
  rw [rmK_idem]
  induction l with
  | nil => cases he
  | cons x r ih =>
    obtain ⟨h1, h2⟩ := List.pairwise_cons.1 hs
    rcases List.mem_cons.1 he with rfl | he2
    · have : rmK (e :: r) e.k = r := by
        have h3 : rmK (e :: r) e.k = rmK r e.k := by simp [rmK]
        rw [h3]
        exact List.filter_eq_self.2 fun y hy => by simp [Ne.symm (h1 y hy)]
      rw [this]
    · have : rmK (x :: r) e.k = x :: rmK r e.k := by simp [rmK, h1 e he2]
      rw [this]
      exact (List.Perm.swap x e _).trans ((ih h2 he2).cons x)
theorem gone_perm {l : List Ent} {e : Ent} (h : hasK l e.k = false) : (rmK (putK l e) e.k).Perm l := by
  refine (rmK_perm (putK_perm l e) e.k).trans ?_
  have : rmK (e :: rmK l e.k) e.k = rmK (rmK l e.k) e.k := by simp [rmK]
  rw [this, rmK_idem, rmK_no h]
theorem has_put (l : List Ent) (e : Ent) : hasK (putK l e) e.k = true := List.any_eq_true.2 ⟨e, (putK_perm l e).mem_iff.2 (by simp), by simp⟩
theorem get_mem {es : List En} {k : List UInt8} (h : hasK (es.map En.ent) k = true) : ∃ e ∈ es, e.k = k ∧ getE es k = some e := by
  rw [← has_get] at h
  obtain ⟨e, he⟩ := Option.isSome_iff_exists.1 h
  exact ⟨e, List.mem_of_find?_eq_some he, by simpa using List.find?_some he, he⟩
set_option maxHeartbeats 16000000 in
set_option maxRecDepth 100000 in
theorem inv_yes {M : World → Int → Tv → Prop} (nd : NdV M) (pv : PtV M) (rm : RmV M) (n : Int) (A : Option Addr) (c : Nat) (es : List En) (x : En) (W : World) (hA : EA W A es) (hl : es.length ≤ 12) (hvl : ∀ e ∈ es, e.v.length ≤ 1000) (hf : fewK (es.map En.ent) = true) (hvx : Vars W) (h0 : 0 ≤ n) (h1 : n ≤ 256) (hx : EnOk W x) (hxl : x.v.length ≤ 200) (hhas : hasK ((ofE es).map En.ent) x.k = true) :
    Calls Tryd.prog 5 #[.int .i64 n, .slice A es.length c, .agg (enC x).toArray] W (Aye W) := by
  obtain ⟨X, hX⟩ : ∃ X, X = W.alloc (.cells (enC x).toArray 42) := ⟨_, rfl⟩
  have hb0 : Below W.heap.size W X := by rw [hX]; exact (Below.refl _ _).alloc (Nat.le_refl _) _
  have hr0 : X.rangeAt W.heap.size 0 (enC x) := by rw [hX]; exact ent_made W x _
  have hs0 : W.heap.size < X.heap.size := by rw [hX]; simp
  have HR0 := Lib.hid hr0
  have HS0 := Lib.hid hs0
  have HXO := Lib.hid (hx.below hb0)
  have HXL := Lib.hid hxl
  clear hr0 hs0 hx hxl
  have HX := Lib.hid hX
  have HB0 := Lib.hid hb0
  have HT := Lib.hid (tree_in nd n A c es X (hA.below hb0) hl hvl hf (hvx.below hb0) h0 h1)
  have HHAS := Lib.hid hhas
  have HVE : Hid (∀ e ∈ ofE es, e.v.length ≤ 1000) := fun e he => hvl e (ofE_mem he)
  have HLE : Hid ((ofE es).length ≤ 12) := Nat.le_trans (ofE_len es) hl
  clear hA hvl hf hvx hX hb0 hhas
  go_enter Tryd.func5, Tryd.ntmps5
  go_wp2_with fail
  rw [← HX.out]
  clear HX
  refine HT.out.mono ?_
  rintro _ w2 ⟨A2, c2, T, rfl, hc2, hI, hF⟩
  have HI := Lib.hid hI
  have HF2 := Lib.hid hF
  obtain ⟨O, hO⟩ : ∃ O, O = ofE es := ⟨_, rfl⟩
  rw [← hO] at HI HF2 HVE HLE HHAS ⊢
  obtain ⟨pT, hpT⟩ := val_ptr nd hF.ms
  have HPT := Lib.hid hpT
  rw [hpT]
  have HH := Lib.hid (hash_in n w2 h0 h1)
  clear hc2 hI hF HT hO hpT
  go_wp2_with fail
  refine HH.out.mono ?_
  rintro _ w3 ⟨b, rfl, hbn, hH, hB⟩
  have HQ3 : Hid (Tf M X n A2 O T b 0 w3) := ⟨HF2.out.below nd hB, ⟨0, Nat.le_refl _, hH⟩, Nat.le_trans HF2.out.bel.size hbn⟩
  clear hH hbn hB HH HF2
  unfold ptr
  have LE : Hid (∀ q, Keep (fun i => i = b) w3 q → q.rangeAt W.heap.size 0 (enC x)) := fun q hq j v hv => hq.cellAt (range_below HR0.out HQ3.out.fs.bel j v hv) (by have := HS0.out; have := HQ3.out.new; show W.heap.size ≠ b; omega)
  have lv := range_val (LE.out w3 (Keep.refl _ _)) HXO.out.key
  rw [Nat.zero_add] at lv
  have e2 : decide (200 < (x.v.length : Int)) = false := decide_eq_false (by have := HXL.out; omega)
  have e1 : decide (200 < x.v.length) = false := decide_eq_false (by have := HXL.out; omega)
  have lk := range_key (LE.out w3 (Keep.refl _ _)) HXO.out.key
  have HG := Lib.hid (get7_c A2 c2 O x.k w3 HQ3.out.fs.ea (by have := HLE.out; omega) HXO.out.key)
  rw [has_get, HHAS.out] at HG
  obtain ⟨en, hen, hek, hge⟩ := get_mem HHAS.out
  rw [hge, show getVal (some en) = .slice en.A en.v.length en.c from rfl] at HG
  have HEN := Lib.hid hen
  have HEK := Lib.hid hek
  clear hen hek hge
  go_wp2_with fail
  refine HG.out.mono ?_
  rintro _ w4 ⟨rfl, hB⟩
  have HQ4 := Lib.hid (HQ3.out.below nd hB)
  have HK4 : Hid (Keep (fun i => i = b) w3 w4) := Keep.of_below hB
  clear hB HG lk lv e1 e2
  have lk := range_key (LE.out w4 HK4.out) HXO.out.key
  have HR := Lib.hid (rem_tf nd rm (k := x.k) HQ4.out (by decide) HQ4.out.fs.ms HPT.out HI.out (by rw [List.length_map]; have := HLE.out; omega) HXO.out.key)
  rw [HHAS.out] at HR
  go_wp2_with fail
  refine HR.out.mono ?_
  rintro _ w5 ⟨S5, p5, rfl, hp5, hI5, hM5, hQ5, hK5⟩
  have HP5 := Lib.hid hp5
  have HI5 := Lib.hid hI5
  have HM5 := Lib.hid hM5
  have HQ5 := Lib.hid hQ5
  have HK5 := Lib.hid (HK4.out.trans hK5)
  clear hp5 hI5 hM5 hQ5 hK5 HR lk HQ4 HK4 HQ3
  have lk := range_key (LE.out w5 HK5.out) HXO.out.key
  have bE := bldEntry ⟨x.k, en.A, en.v, en.c⟩ HXO.out.key
  have hok := HQ5.out.fs.ea.mem en HEN.out
  have HP := Lib.hid (put_tf nd pv (e := ⟨x.k, en.A, en.v, en.c⟩) HQ5.out (by decide) HM5.out HP5.out HI5.out (by have : (rmK (O.map En.ent) x.k).length ≤ (O.map En.ent).length := List.length_filter_le _ _; rw [List.length_map] at this; have := HLE.out; omega) ⟨HXO.out.key, hok.cap, hok.val⟩ (HVE.out en HEN.out))
  clear hok
  go_wp2_with fail
  refine HP.out.mono ?_
  rintro _ w6 ⟨S6, p6, rfl, hp6, hI6, hM6, hQ6, _⟩
  have HP6 := Lib.hid hp6
  have HM6 := Lib.hid hM6
  have HQ6 := Lib.hid hQ6
  have HTR : Hid (S6.tr = T.tr) := by
    show _ = _
    refine IsMap.perm hI6 HI.out ?_
    have h1 : En.ent ⟨x.k, en.A, en.v, en.c⟩ = en.ent := by
      show (⟨x.k, en.v⟩ : Ent) = ⟨en.k, en.v⟩
      rw [HEK.out]
    rw [h1, show x.k = en.ent.k from HEK.out.symm]
    exact back_perm HI.out.sep.ne (List.mem_map.2 ⟨en, HEN.out, rfl⟩)
  clear hp6 hI6 hM6 hQ6 HP lk bE HQ5 HM5 HP5 HI5 HK5
  have HAL := Lib.hid (alive10_c nd pv rm w6 HQ6.out.fs.vars)
  go_wp2_with fail
  refine HAL.out.mono ?_
  rintro _ w7 ⟨rfl, hB⟩
  have HQ7 := Lib.hid (HQ6.out.below nd hB)
  have HM7 := Lib.hid (nd.below HM6.out hB)
  clear hB HAL HQ6 HM6
  obtain ⟨g, hg⟩ : ∃ g, g = digT n T.tr := ⟨_, rfl⟩
  have hgl : g.length = 32 := by rw [hg]; exact digT_len _ _
  have HD := Lib.hid (dig_tf nd HQ7.out (by decide) HM7.out HP6.out)
  rw [HTR.out, ← hg] at HD
  have HGG := Lib.hid hg
  clear hg
  go_wp2_with fail
  refine HD.out.mono ?_
  rintro _ w8 ⟨rfl, hQ, _⟩
  have HQ8 := Lib.hid hQ
  have HD2 := Lib.hid (dig_tf nd HQ8.out (by decide) HQ8.out.fs.ms HPT.out)
  rw [← HGG.out] at HD2
  have qg : ∀ x y w, eqA .eql 44 x y w (.agg (bA g)) (.agg (bA g)) = .ok (.value (.bool true)) w := fun x y w => by rw [eqDig g g hgl hgl, decide_eq_true rfl]
  clear hQ HD HQ7 HM7
  go_wp2_with fail
  refine HD2.out.mono ?_
  rintro _ w9 ⟨rfl, hQ, _⟩
  have HQ9 := Lib.hid hQ
  clear hQ HD2 HQ8
  go_wp2_with fail
  go_ret
  exact ⟨rfl, HB0.out.trans (HQ9.out.fs.bel.mono HB0.out.size)⟩
set_option maxHeartbeats 16000000 in
set_option maxRecDepth 100000 in
theorem inv_no {M : World → Int → Tv → Prop} (nd : NdV M) (pv : PtV M) (rm : RmV M) (n : Int) (A : Option Addr) (c : Nat) (es : List En) (x : En) (W : World) (hA : EA W A es) (hl : es.length ≤ 12) (hvl : ∀ e ∈ es, e.v.length ≤ 1000) (hf : fewK (es.map En.ent) = true) (hvx : Vars W) (h0 : 0 ≤ n) (h1 : n ≤ 256) (hx : EnOk W x) (hxl : x.v.length ≤ 200) (hhas : hasK ((ofE es).map En.ent) x.k = false) :
    Calls Tryd.prog 5 #[.int .i64 n, .slice A es.length c, .agg (enC x).toArray] W (Aye W) := by
  obtain ⟨X, hX⟩ : ∃ X, X = W.alloc (.cells (enC x).toArray 42) := ⟨_, rfl⟩
  have hb0 : Below W.heap.size W X := by rw [hX]; exact (Below.refl _ _).alloc (Nat.le_refl _) _
  have hr0 : X.rangeAt W.heap.size 0 (enC x) := by rw [hX]; exact ent_made W x _
  have hs0 : W.heap.size < X.heap.size := by rw [hX]; simp
  have HR0 := Lib.hid hr0
  have HS0 := Lib.hid hs0
  have HXO := Lib.hid (hx.below hb0)
  have HXL := Lib.hid hxl
  clear hr0 hs0 hx hxl
  have HX := Lib.hid hX
  have HB0 := Lib.hid hb0
  have HT := Lib.hid (tree_in nd n A c es X (hA.below hb0) hl hvl hf (hvx.below hb0) h0 h1)
  have HHAS := Lib.hid hhas
  have HVE : Hid (∀ e ∈ ofE es, e.v.length ≤ 1000) := fun e he => hvl e (ofE_mem he)
  have HLE : Hid ((ofE es).length ≤ 12) := Nat.le_trans (ofE_len es) hl
  clear hA hvl hf hvx hX hb0 hhas
  go_enter Tryd.func5, Tryd.ntmps5
  go_wp2_with fail
  rw [← HX.out]
  clear HX
  refine HT.out.mono ?_
  rintro _ w2 ⟨A2, c2, T, rfl, hc2, hI, hF⟩
  have HI := Lib.hid hI
  have HF2 := Lib.hid hF
  obtain ⟨O, hO⟩ : ∃ O, O = ofE es := ⟨_, rfl⟩
  rw [← hO] at HI HF2 HVE HLE HHAS ⊢
  obtain ⟨pT, hpT⟩ := val_ptr nd hF.ms
  have HPT := Lib.hid hpT
  rw [hpT]
  have HH := Lib.hid (hash_in n w2 h0 h1)
  clear hc2 hI hF HT hO hpT
  go_wp2_with fail
  refine HH.out.mono ?_
  rintro _ w3 ⟨b, rfl, hbn, hH, hB⟩
  have HQ3 : Hid (Tf M X n A2 O T b 0 w3) := ⟨HF2.out.below nd hB, ⟨0, Nat.le_refl _, hH⟩, Nat.le_trans HF2.out.bel.size hbn⟩
  clear hH hbn hB HH HF2
  unfold ptr
  have LE : Hid (∀ q, Keep (fun i => i = b) w3 q → q.rangeAt W.heap.size 0 (enC x)) := fun q hq j v hv => hq.cellAt (range_below HR0.out HQ3.out.fs.bel j v hv) (by have := HS0.out; have := HQ3.out.new; show W.heap.size ≠ b; omega)
  have lv := range_val (LE.out w3 (Keep.refl _ _)) HXO.out.key
  rw [Nat.zero_add] at lv
  have e2 : decide (200 < (x.v.length : Int)) = false := decide_eq_false (by have := HXL.out; omega)
  have e1 : decide (200 < x.v.length) = false := decide_eq_false (by have := HXL.out; omega)
  have lk := range_key (LE.out w3 (Keep.refl _ _)) HXO.out.key
  have HG := Lib.hid (get7_c A2 c2 O x.k w3 HQ3.out.fs.ea (by have := HLE.out; omega) HXO.out.key)
  rw [has_get, HHAS.out] at HG
  obtain ⟨gv, hgv⟩ : ∃ gv, gv = getVal (getE O x.k) := ⟨_, rfl⟩
  rw [← hgv] at HG
  clear hgv
  go_wp2_with fail
  refine HG.out.mono ?_
  rintro _ w4 ⟨rfl, hB⟩
  have HQ4 := Lib.hid (HQ3.out.below nd hB)
  have HK4 : Hid (Keep (fun i => i = b) w3 w4) := Keep.of_below hB
  have HXW := Lib.hid ((HXO.out.below HQ3.out.fs.bel).below hB)
  clear hB HG lk lv e1 e2
  have L1 : Hid (∀ q, Keep (fun i => i = b) w4 q → ldA 42 q (.pointer (some ⟨W.heap.size, 0, none⟩)) = .ok (.value (.agg (enC x).toArray)) q) := fun q hq => range_ent (LE.out q (HK4.out.trans hq)) HXO.out.key
  have L2 : Hid (∀ q, Keep (fun i => i = b) w4 q → ldA 24 q (.pointer (some ⟨W.heap.size, 0, none⟩)) = .ok (.value (.agg (bA x.k))) q) := fun q hq => range_key (LE.out q (HK4.out.trans hq)) HXO.out.key
  have HQD : Hid (Tf M X n A2 O T b 0 w4.drew) := HQ4.out.below nd ((Below.refl _ _).drew)
  have HOL : Hid ((O.map En.ent).length ≤ 12) := by show _ ≤ _; rw [List.length_map]; exact HLE.out
  go_wp2_with fail
  refine region_heldT 12 (fun v => Keep (fun i => i = b) w4 v) (by kernel_rfl) ?_
  have hHeld : Keep (fun i => i = b) w4 w4.drew := (Keep.refl _ _).drew
  refine HeldT.take (i := 0) (oi := { dst := some 73, op := .move (.tmp 10), type := _, pos := _, after := _, guard := _ }) (v := ?_) rfl (by kernel_rfl) (by kernel_rfl) (by kernel_rfl) (by kernel_rfl) (fun _ _ _ h => h) (Or.inl ⟨by rfl, ?_⟩) (by assumption) ?_
  rotate_left 1
  · intro v hSv
    clear hSv
    go_simp
    try with_reducible rfl
  try simp only [Act.put, List.setIfInBounds_toArray, List.set_cons_zero, List.set_cons_succ]
  refine HeldT.take (i := 1) (oi := { dst := some 74, op := .move (.tmp 10), type := _, pos := _, after := _, guard := _ }) (v := ?_) rfl (by kernel_rfl) (by kernel_rfl) (by kernel_rfl) (by kernel_rfl) (fun _ _ _ h => h) (Or.inl ⟨by rfl, ?_⟩) (by assumption) ?_
  rotate_left 1
  · intro v hSv
    clear hSv
    go_simp
    try with_reducible rfl
  try simp only [Act.put, List.setIfInBounds_toArray, List.set_cons_zero, List.set_cons_succ]
  refine HeldT.take (i := 2) (oi := { dst := some 75, op := .move (.tmp 8), type := _, pos := _, after := _, guard := _ }) (v := ?_) rfl (by kernel_rfl) (by kernel_rfl) (by kernel_rfl) (by kernel_rfl) (fun _ _ _ h => h) (Or.inl ⟨by rfl, ?_⟩) (by assumption) ?_
  rotate_left 1
  · intro v hSv
    clear hSv
    go_simp
    try with_reducible rfl
  try simp only [Act.put, List.setIfInBounds_toArray, List.set_cons_zero, List.set_cons_succ]
  refine HeldT.take (i := 3) (oi := { dst := some 76, op := .load _ (.tmp 5), type := _, pos := _, after := _, guard := _ }) (v := ?_) rfl (by kernel_rfl) (by kernel_rfl) (by kernel_rfl) (by kernel_rfl) (fun _ _ _ h => h) (Or.inl ⟨by rfl, ?_⟩) (by assumption) ?_
  rotate_left 1
  · intro v hSv
    have hv1 := L1.out v hSv
    clear hSv
    go_simp
    try with_reducible rfl
  try simp only [Act.put, List.setIfInBounds_toArray, List.set_cons_zero, List.set_cons_succ]
  refine HeldT.take (i := 5) (oi := { dst := some 78, op := .fieldAddr _ (.tmp 5) 0, type := _, pos := _, after := _, guard := _ }) (v := ?_) rfl (by kernel_rfl) (by kernel_rfl) (by kernel_rfl) (by kernel_rfl) (fun _ _ _ h => h) (Or.inl ⟨by rfl, ?_⟩) (by assumption) ?_
  rotate_left 1
  · intro v hSv
    clear hSv
    go_simp
    try with_reducible rfl
  try simp only [Act.put, List.setIfInBounds_toArray, List.set_cons_zero, List.set_cons_succ]
  refine HeldT.take (i := 6) (oi := { dst := some 79, op := .load _ (.tmp 78), type := _, pos := _, after := _, guard := _ }) (v := ?_) rfl (by kernel_rfl) (by kernel_rfl) (by kernel_rfl) (by kernel_rfl) (fun _ _ _ h => h) (Or.inl ⟨by rfl, ?_⟩) (by assumption) ?_
  rotate_left 1
  · intro v hSv
    have hv1 := L2.out v hSv
    clear hSv
    go_simp
    try with_reducible rfl
  try simp only [Act.put, List.setIfInBounds_toArray, List.set_cons_zero, List.set_cons_succ]
  refine HeldT.one (i := 4) (o := { dst := some 77, op := .call _, type := _, pos := _, after := _, guard := _ }) (by kernel_rfl) rfl rfl (fun K hK => ?_)
  have HP := Lib.hid (put_tf nd pv (e := x) HQD.out (by decide) HQD.out.fs.ms HPT.out HI.out (by have := HOL.out; omega) (HXW.out.below ((Below.refl _ _).drew)) (by have := HXL.out; omega))
  go_wp2_with fail
  refine HP.out.mono ?_
  rintro _ r1 ⟨S5, p5, rfl, hp5, hI5, hM5, hQ5, hK5⟩
  have hk5 : Keep (fun i => i = b) w4 r1 := (Keep.refl _ w4).drew.trans hK5
  have HP5 := Lib.hid hp5
  have HI5 := Lib.hid hI5
  have HM5 := Lib.hid hM5
  have HQ5 := Lib.hid hQ5
  have HK5 := Lib.hid hk5
  have HL5 : Hid ((putK (O.map En.ent) x.ent).length ≤ 13) := by show _ ≤ _; have := putK_len (O.map En.ent) x.ent; have := HOL.out; omega
  clear hp5 hI5 hM5 hQ5 hK5 HP
  go_wp2_with fail
  refine hK.out _ _ (fun _ => hk5) (fun hS => ?_)
  have hHeld := hS (by decide)
  clear hS hK K
  try simp only [Act.put, List.setIfInBounds_toArray, List.set_cons_zero, List.set_cons_succ]
  refine HeldT.one (i := 7) (o := { dst := some 80, op := .call _, type := _, pos := _, after := _, guard := _ }) (by kernel_rfl) rfl rfl (fun K hK => ?_)
  clear hk5
  have HR := Lib.hid (rem_tf nd rm (k := x.k) HQ5.out (by decide) HM5.out HP5.out HI5.out (by have := HL5.out; omega) HXO.out.key)
  rw [show hasK (putK (O.map En.ent) x.ent) x.k = true from has_put _ x.ent] at HR
  go_wp2_with fail
  refine HR.out.mono ?_
  rintro _ r2 ⟨S6, p6, rfl, hp6, hI6, hM6, hQ6, hK6⟩
  have hk6 : Keep (fun i => i = b) w4 r2 := HK5.out.trans hK6
  have HP6 := Lib.hid hp6
  have HM6 := Lib.hid hM6
  have HQ6 := Lib.hid hQ6
  have HTR : Hid (S6.tr = T.tr) := by
    show _ = _
    exact IsMap.perm hI6 HI.out (gone_perm (e := x.ent) HHAS.out)
  clear hp6 hI6 hM6 hQ6 hK6 HR
  go_wp2_with fail
  refine hK.out _ _ (fun _ => hk6) (fun hS => ?_)
  have hHeld := hS (by decide)
  clear hS hK K
  try simp only [Act.put, List.setIfInBounds_toArray, List.set_cons_zero, List.set_cons_succ]
  refine HeldT.take (i := 8) (oi := { dst := some 72, op := .move (.tmp 80), type := _, pos := _, after := _, guard := _ }) (v := ?_) rfl (by kernel_rfl) (by kernel_rfl) (by kernel_rfl) (by kernel_rfl) (fun _ _ _ h => h) (Or.inl ⟨by rfl, ?_⟩) (by assumption) ?_
  rotate_left 1
  · intro v hSv
    clear hSv
    go_simp
    try with_reducible rfl
  try simp only [Act.put, List.setIfInBounds_toArray, List.set_cons_zero, List.set_cons_succ]
  refine HeldT.take (i := 9) (oi := { dst := some 81, op := .extract (.tmp 72) 0, type := _, pos := _, after := _, guard := _ }) (v := ?_) rfl (by kernel_rfl) (by kernel_rfl) (by kernel_rfl) (by kernel_rfl) (fun _ _ _ h => h) (Or.inl ⟨by rfl, ?_⟩) (by assumption) ?_
  rotate_left 1
  · intro v hSv
    clear hSv
    go_simp
    try with_reducible rfl
  try simp only [Act.put, List.setIfInBounds_toArray, List.set_cons_zero, List.set_cons_succ]
  refine HeldT.take (i := 10) (oi := { dst := some 82, op := .extract (.tmp 72) 1, type := _, pos := _, after := _, guard := _ }) (v := ?_) rfl (by kernel_rfl) (by kernel_rfl) (by kernel_rfl) (by kernel_rfl) (fun _ _ _ h => h) (Or.inl ⟨by rfl, ?_⟩) (by assumption) ?_
  rotate_left 1
  · intro v hSv
    clear hSv
    go_simp
    try with_reducible rfl
  try simp only [Act.put, List.setIfInBounds_toArray, List.set_cons_zero, List.set_cons_succ]
  refine HeldT.one (i := 11) (o := { dst := some 16, op := .assign _, type := _, pos := _, after := _, guard := _ }) (by kernel_rfl) rfl rfl (fun K hK => ?_)
  go_wp2_with fail
  refine hK.out _ _ (fun _ => hHeld) (fun hS => ?_)
  have hHeld := hS (by decide)
  clear hS hK K
  try simp only [Act.put, List.setIfInBounds_toArray, List.set_cons_zero, List.set_cons_succ]
  refine HeldT.one (i := 12) (o := { dst := some 17, op := .assign _, type := _, pos := _, after := _, guard := _ }) (by kernel_rfl) rfl rfl (fun K hK => ?_)
  go_wp2_with fail
  refine hK.out _ _ (fun h => absurd rfl h) (fun _ => ?_)
  clear hK K hHeld hk6
  try simp only [Act.put, List.setIfInBounds_toArray, List.set_cons_zero, List.set_cons_succ]
  refine HeldT.done (by kernel_rfl) ?_ _
  obtain ⟨w6, hw6⟩ : ∃ w6, w6 = r2 := ⟨_, rfl⟩
  rw [← hw6] at HM6 HQ6 ⊢
  clear hw6 HQ5 HM5 HP5 HI5 HK5 HQD HQ4 HQ3 L1 L2
  have HAL := Lib.hid (alive10_c nd pv rm w6 HQ6.out.fs.vars)
  go_wp2_with fail
  refine HAL.out.mono ?_
  rintro _ w7 ⟨rfl, hB⟩
  have HQ7 := Lib.hid (HQ6.out.below nd hB)
  have HM7 := Lib.hid (nd.below HM6.out hB)
  clear hB HAL HQ6 HM6
  obtain ⟨g, hg⟩ : ∃ g, g = digT n T.tr := ⟨_, rfl⟩
  have hgl : g.length = 32 := by rw [hg]; exact digT_len _ _
  have HD := Lib.hid (dig_tf nd HQ7.out (by decide) HM7.out HP6.out)
  rw [HTR.out, ← hg] at HD
  have HGG := Lib.hid hg
  clear hg
  go_wp2_with fail
  refine HD.out.mono ?_
  rintro _ w8 ⟨rfl, hQ, hK8⟩
  have HQ8 := Lib.hid hQ
  have HM8 := Lib.hid (HQ7.out.msK nd HM7.out hK8)
  have HD2 := Lib.hid (dig_tf nd HQ8.out (by decide) HQ8.out.fs.ms HPT.out)
  rw [← HGG.out] at HD2
  have qg : ∀ x y w, eqA .eql 44 x y w (.agg (bA g)) (.agg (bA g)) = .ok (.value (.bool true)) w := fun x y w => by rw [eqDig g g hgl hgl, decide_eq_true rfl]
  clear hQ hK8 HD HQ7 HM7
  go_wp2_with fail
  refine HD2.out.mono ?_
  rintro _ w9 ⟨rfl, hQ, hK9⟩
  have HQ9 := Lib.hid hQ
  have HM9 := Lib.hid (HQ8.out.msK nd HM8.out hK9)
  have HLT : Hid (lenT S6.tr = O.length) := by show _ = _; rw [HTR.out, HI.out.len, List.length_map]
  have HLN := Lib.hid (len_tf nd HQ9.out HM9.out HP6.out (by rw [HLT.out]; have := HLE.out; omega))
  rw [HLT.out] at HLN
  have ql : ((O.length : Int) == (O.length : Int)) = true := beq_self_eq_true _
  clear hQ hK9 HD2 HQ8 HM8
  go_wp2_with fail
  refine HLN.out.mono ?_
  rintro _ wa ⟨rfl, hQ, _⟩
  have HQA := Lib.hid hQ
  clear hQ HLN HQ9 HM9 ql qg
  go_wp2_with fail
  go_ret
  exact ⟨rfl, HB0.out.trans (HQA.out.fs.bel.mono HB0.out.size)⟩
set_option maxHeartbeats 16000000 in
set_option maxRecDepth 100000 in
theorem inv_long {M : World → Int → Tv → Prop} (nd : NdV M) (pv : PtV M) (rm : RmV M) (n : Int) (A : Option Addr) (c : Nat) (es : List En) (x : En) (W : World) (hA : EA W A es) (hl : es.length ≤ 12) (hvl : ∀ e ∈ es, e.v.length ≤ 1000) (hf : fewK (es.map En.ent) = true) (hvx : Vars W) (h0 : 0 ≤ n) (h1 : n ≤ 256) (hx : EnOk W x) (hxl : 200 < x.v.length) :
    Calls Tryd.prog 5 #[.int .i64 n, .slice A es.length c, .agg (enC x).toArray] W (Aye W) := by
  obtain ⟨X, hX⟩ : ∃ X, X = W.alloc (.cells (enC x).toArray 42) := ⟨_, rfl⟩
  have hb0 : Below W.heap.size W X := by rw [hX]; exact (Below.refl _ _).alloc (Nat.le_refl _) _
  have hr0 : X.rangeAt W.heap.size 0 (enC x) := by rw [hX]; exact ent_made W x _
  have hs0 : W.heap.size < X.heap.size := by rw [hX]; simp
  have HR0 := Lib.hid hr0
  have HS0 := Lib.hid hs0
  have HXO := Lib.hid (hx.below hb0)
  have HXL := Lib.hid hxl
  clear hr0 hs0 hx hxl
  have HX := Lib.hid hX
  have HB0 := Lib.hid hb0
  have HT := Lib.hid (tree_in nd n A c es X (hA.below hb0) hl hvl hf (hvx.below hb0) h0 h1)
  have HVE : Hid (∀ e ∈ ofE es, e.v.length ≤ 1000) := fun e he => hvl e (ofE_mem he)
  have HLE : Hid ((ofE es).length ≤ 12) := Nat.le_trans (ofE_len es) hl
  clear hA hvl hf hvx hX hb0
  go_enter Tryd.func5, Tryd.ntmps5
  go_wp2_with fail
  rw [← HX.out]
  clear HX
  refine HT.out.mono ?_
  rintro _ w2 ⟨A2, c2, T, rfl, hc2, hI, hF⟩
  have HI := Lib.hid hI
  have HF2 := Lib.hid hF
  obtain ⟨O, hO⟩ : ∃ O, O = ofE es := ⟨_, rfl⟩
  rw [← hO] at HI HF2 HVE HLE ⊢
  obtain ⟨pT, hpT⟩ := val_ptr nd hF.ms
  have HPT := Lib.hid hpT
  rw [hpT]
  have HH := Lib.hid (hash_in n w2 h0 h1)
  clear hc2 hI hF HT hO hpT
  go_wp2_with fail
  refine HH.out.mono ?_
  rintro _ w3 ⟨b, rfl, hbn, hH, hB⟩
  have HQ3 : Hid (Tf M X n A2 O T b 0 w3) := ⟨HF2.out.below nd hB, ⟨0, Nat.le_refl _, hH⟩, Nat.le_trans HF2.out.bel.size hbn⟩
  clear hH hbn hB HH HF2
  unfold ptr
  have LE : Hid (∀ q, Keep (fun i => i = b) w3 q → q.rangeAt W.heap.size 0 (enC x)) := fun q hq j v hv => hq.cellAt (range_below HR0.out HQ3.out.fs.bel j v hv) (by have := HS0.out; have := HQ3.out.new; show W.heap.size ≠ b; omega)
  have lv := range_val (LE.out w3 (Keep.refl _ _)) HXO.out.key
  rw [Nat.zero_add] at lv
  have e2 : decide (200 < (x.v.length : Int)) = true := decide_eq_true (by have := HXL.out; omega)
  have e1 : decide (200 < x.v.length) = true := decide_eq_true (by have := HXL.out; omega)
  have HAL := Lib.hid (alive10_c nd pv rm w3 HQ3.out.fs.vars)
  go_wp2_with fail
  refine HAL.out.mono ?_
  rintro _ w4 ⟨rfl, hB⟩
  have HQ4 := Lib.hid (HQ3.out.below nd hB)
  clear hB HAL HQ3
  go_wp2_with fail
  go_ret
  exact ⟨rfl, HB0.out.trans (HQ4.out.fs.bel.mono HB0.out.size)⟩
set_option maxHeartbeats 16000000 in
set_option maxRecDepth 100000 in
/-- Other bits, or entries that are not few: alive. -/
theorem inv_out {M : World → Int → Tv → Prop} (nd : NdV M) (pv : PtV M) (rm : RmV M) (n : Int) (A : Option Addr) (c : Nat) (es : List En) (x : En) (W : World) (hA : EA W A es) (hvx : Vars W) (h : (n < 0 ∨ 256 < n) ∨ fewK (es.map En.ent) = false) :
    Calls Tryd.prog 5 #[.int .i64 n, .slice A es.length c, .agg (enC x).toArray] W (Aye W) := by
  obtain ⟨X, hX⟩ : ∃ X, X = W.alloc (.cells (enC x).toArray 42) := ⟨_, rfl⟩
  have hb0 : Below W.heap.size W X := by rw [hX]; exact (Below.refl _ _).alloc (Nat.le_refl _) _
  have HX := Lib.hid hX
  have HB0 := Lib.hid hb0
  have HVX := Lib.hid (hvx.below hb0)
  have HT := Lib.hid (tree_out n A c es X (hA.below hb0) h)
  have HAL := Lib.hid (fun w h => alive10_c nd pv rm w h)
  clear hA hvx h hX hb0
  go_enter Tryd.func5, Tryd.ntmps5
  go_wp2_with fail
  rw [← HX.out]
  clear HX
  refine HT.out.mono ?_
  rintro _ w2 ⟨rfl, hB⟩
  have HB := Lib.hid hB
  clear hB HT
  go_wp2_with fail
  refine (hash_any n w2).mono ?_
  rintro _ w3 ⟨p, rfl, hB⟩
  have HB3 := Lib.hid (HB.out.trans (hB.mono HB.out.size))
  clear hB HB
  go_wp2_with fail
  refine (HAL.out w3 (HVX.out.below HB3.out)).mono ?_
  rintro _ w4 ⟨rfl, hB⟩
  have HB4 := Lib.hid (HB3.out.trans (hB.mono HB3.out.size))
  clear hB
  go_wp2_with fail
  go_ret
  exact ⟨rfl, HB0.out.trans (HB4.out.mono HB0.out.size)⟩
end Go.Proofs.YtjhpnlnghaljaaaDoor
