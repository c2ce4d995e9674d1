/- Several texts in one: Ya Yb Yc Yd Ye. -/
import Derived.Test.YtjhpnlnghaljaaaGreatDoorMU
import Derived.LaidEqlPtr
import Derived.Test.YtjhpnlnghaljaaaGreatDoorXi
/- What the program of layer 10 keeps, as a contract over subtrees of maps; plain facts on keys taken out. -/
namespace Go.Proofs.YtjhpnlnghaljaaaGreatDoor
open Go.RowKit

def hasK (l : List Ent) (k : List UInt8) : Bool := l.any fun e => decide (e.k = k)
def cntK : List Ent → List (List UInt8) → Nat
  | _, [] => 0
  | l, k :: r => (if hasK l k then 1 else 0) + cntK (rmK l k) r
/-- The key agrees with the map's in the first bits. -/
def AptK (d : Int) (l : List Ent) (k : List UInt8) : Prop := k.length = 32 ∧ ∀ a ∈ l, ∀ i : Nat, (i : Int) < d → i < 256 → Bt.bit (keyF a.k) i = Bt.bit (keyF k) i
theorem hasK_no {l : List Ent} {k : List UInt8} (h : hasK l k = false) : ∀ e ∈ l, e.k ≠ k := fun e he hk => by
  have := List.any_eq_false.1 h e he
  simp [hk] at this
theorem hasK_yes {l : List Ent} {k : List UInt8} (h : hasK l k = true) : ∃ e ∈ l, e.k = k := by
  obtain ⟨e, he, h1⟩ := List.any_eq_true.1 h
  exact ⟨e, he, of_decide_eq_true h1⟩
theorem rmK_no {l : List Ent} {k : List UInt8} (h : hasK l k = false) : rmK l k = l := List.filter_eq_self.2 fun e he => by
  have := hasK_no h e he
  simp [this]
theorem rmK_len_eq {l : List Ent} (hs : l.Pairwise (fun a b => a.k ≠ b.k)) (k : List UInt8) : (rmK l k).length + (if hasK l k then 1 else 0) = l.length := by
  induction l with
  | nil => rfl
  | cons x r ih =>
    obtain ⟨h1, h2⟩ := List.pairwise_cons.1 hs
    have i := ih h2
    by_cases hx : x.k = k
    · have hno : hasK r k = false := List.any_eq_false.2 fun e he => by
        have := h1 e he
        rw [hx] at this
        simp [Ne.symm this]
      rw [hno] at i
      have e1 : rmK (x :: r) k = rmK r k := by simp [rmK, hx]
      have e2 : hasK (x :: r) k = true := by simp [hasK, hx]
      rw [e1, e2, List.length_cons]
      simpa using i
    · have e1 : rmK (x :: r) k = x :: rmK r k := by simp [rmK, hx]
      have e2 : hasK (x :: r) k = hasK r k := by simp [hasK, hx]
      rw [e1, e2, List.length_cons, List.length_cons]
      omega
/-- A slice of keys. -/
def KS (w : World) (A : Option Addr) (ks : List (List UInt8)) : Prop := ∀ i k, ks[i]? = some k → k.length = 32 ∧ ∃ g o, A = some ⟨g, o, none⟩ ∧ w.rangeAt g (o + i * 32) (k.map bv)
theorem KS.below {w w' : World} {A : Option Addr} {ks : List (List UInt8)} (h : KS w A ks) (hb : Below w.heap.size w w') : KS w' A ks := fun i k hi => by
  obtain ⟨h1, g, o, h2, h3⟩ := h i k hi
  exact ⟨h1, g, o, h2, range_below h3 hb⟩
/-- What the program of layer 10 keeps. -/
structure RmV (M : World → Int → Tv → Prop) : Prop where
  remove : ∀ (w : World) (b : Nat) (n : Int) (c : Nat) (l : List Ent) (T : Tv) (k : List UInt8), Hs w b n c → c ≤ 500000 → Vars w → M w n T → IsMap l T → l.length ≤ 100000 → k.length = 32 →
    Calls Tryz.prog 18 #[ptr b, T.val, .agg (bA k)] w fun x w' => ∃ T', x = .returned (.tuple #[T'.val, .bool (hasK l k)]) ∧ IsMap (rmK l k) T' ∧ Made M w b n T T' (c + 1000) w' ∧ (hasK l k = false → T' = T ∧ Hs w' b n c)
  atd : ∀ (w : World) (b : Nat) (n : Int) (c d : Nat) (l : List Ent) (T : Tv) (k : List UInt8), Hs w b n c → c ≤ 500000 → Vars w → M w n T → SubMap d l T → d ≤ 256 → AptK d l k → l.length ≤ 100000 →
    Calls Tryz.prog 37 #[ptr b, T.val, .agg (bA k), .int .i64 (d : Int)] w fun x w' => ∃ T', x = .returned (.tuple #[T'.val, .bool (hasK l k)]) ∧ SubMap d (rmK l k) T' ∧ Made M w b n T T' (c + 1000) w' ∧ (hasK l k = false → T' = T ∧ Hs w' b n c)
  all : ∀ (w : World) (b : Nat) (n : Int) (c : Nat) (l : List Ent) (T : Tv) (A : Option Addr) (cA : Nat) (ks : List (List UInt8)), Hs w b n c → c ≤ 100000 → Vars w → M w n T → IsMap l T → l.length ≤ 10000 → KS w A ks → ks.length ≤ 20 →
    Calls Tryz.prog 19 #[ptr b, T.val, .slice A ks.length cA] w fun x w' => ∃ T', x = .returned (.tuple #[T'.val, .int .i64 (cntK l ks : Int)]) ∧ IsMap (ks.foldl rmK l) T' ∧ Made M w b n T T' (c + 1000 * ks.length) w'
end Go.Proofs.YtjhpnlnghaljaaaGreatDoor

/- alive of layer 10 over contracts. -/
namespace Go.Proofs.YtjhpnlnghaljaaaGreatDoor
open Go.RowKit

theorem eql_ptr (p : Option Addr) (w : World) : (binOp .eql 24 (.pointer p) (.pointer p)).run Tryz.prog w = .ok (.bool true) w := by
  cases p with
  | none => kernel_rfl
  | some a =>
    obtain ⟨i, hi⟩ := Option.isSome_iff_exists.1 (show (Tryz.prog.info? 90).isSome = true by kernel_rfl)
    exact run_eql_ptr_same w a Tryz.underlying24 hi
def k1k : List UInt8 := 1 :: List.replicate 31 0
theorem bldKey_1k (w : World) : bldA 32 w #[(0, .int .u8 1)] = .ok (.value (.agg (bA k1k))) w := by kernel_rfl
/-! ### Slices of keys built -/
noncomputable def bsK (w : World) (n : Nat) (parts : Array (Nat × Value)) : Result Next := Sem.run Tryz.prog (do pure (.value (← Instr.buildSlice 30 n parts))) w
@[go_sem ↓] theorem execOp_build_keys (ρ : Operand → Value) (dst : Option Tmp) (n : Nat) (parts : Array (Nat × Operand)) (type : TypeId) (pos : String) (after : Array Edge) (guard : Option (Nat × Bool)) (w : World) :
    Sem.run Tryz.prog (execOp ρ { dst, op := .buildSlice 30 n parts, type, pos, after, guard }) w = bsK w n (parts.map fun x => (x.1, ρ x.2)) := rfl
theorem bsK_alive (w : World) : bsK w 3 #[(0, .agg (bA k64)), (1, .agg (bA z26)), (2, .agg (bA k64))] = .ok (.value (.slice (some ⟨w.heap.size, 0, none⟩) 3 3)) (w.alloc (.cells (bA (k64 ++ (z26 ++ k64))) 32)) := by kernel_rfl
theorem ks_alive (w : World) (t : TypeId) : KS (w.alloc (.cells (bA (k64 ++ (z26 ++ k64))) t)) (some ⟨w.heap.size, 0, none⟩) [k64, z26, k64] := fun i k hi => by
  have hc : ∀ (o : Nat) (l : List UInt8), ((k64 ++ (z26 ++ k64)).drop o).take 32 = l → l.length = 32 → (w.alloc (.cells (bA (k64 ++ (z26 ++ k64))) t)).rangeAt w.heap.size o (l.map bv) := fun o l h hl j v hv => by
    rw [cell_of_cells (heap_alloc_new w _)]
    have hj : j < 32 := by have := (List.getElem?_eq_some_iff.1 hv).1; simpa [hl] using this
    unfold bA
    rw [List.getElem?_toArray, List.getElem?_map]
    rw [List.getElem?_map, ← h, List.getElem?_take_of_lt hj, List.getElem?_drop] at hv
    exact hv
  match i, hi with
  | 0, hi => cases hi; exact ⟨rfl, _, _, rfl, hc 0 k64 rfl rfl⟩
  | 1, hi => cases hi; exact ⟨rfl, _, _, rfl, hc 32 z26 rfl rfl⟩
  | 2, hi => cases hi; exact ⟨rfl, _, _, rfl, hc 64 k64 rfl rfl⟩
theorem has_a : hasK [E8a, E9b] z26 = true := by decide
theorem has_1 : hasK [E8a, E9b] k1k = false := by decide
theorem rm_a : rmK [E8a, E9b] z26 = [E9b] := by decide
theorem cnt_a : cntK [E8a, E9b] [k64, z26, k64] = 2 := by decide
theorem rms_a : [k64, z26, k64].foldl rmK [E8a, E9b] = [] := by decide
theorem leaf_of {T : Tv} {e : Ent} (h : IsMap [e] T) : ∃ v, T = .leaf v e := by
  have ht := h.tr
  rw [growT_one] at ht
  cases T with
  | nil => cases ht
  | leaf v x => injection ht with hx; exact ⟨v, by rw [hx]⟩
  | inner v a b => cases ht
theorem nil_of {T : Tv} (h : IsMap [] T) : T = .nil := by
  have ht := h.tr
  rw [growT_none] at ht
  cases T with
  | nil => rfl
  | leaf v x => cases ht
  | inner v a b => cases ht
theorem field_entryKey_f (f : Nat → UInt8) (A : Option Addr) (n c : Nat) (w : World) : (Instr.field 35 (.agg (((List.range 32).map f).map bv ++ [Value.slice A n c]).toArray) 0).run Tryz.prog w = .ok (.agg (bA ((List.range 32).map f))) w := by kernel_rfl
theorem field_entryKey (e : En) (h : e.k.length = 32) (w : World) : (Instr.field 35 (.agg (enC e).toArray) 0).run Tryz.prog w = .ok (.agg (bA e.k)) w := by
  have h1 := field_entryKey_f (fun j => e.k.getD j 0) e.A e.v.length e.c w
  rw [← list32 e.k h] at h1
  exact h1
set_option maxHeartbeats 8000000 in
set_option maxRecDepth 100000 in
theorem alive10_c {M : World → Int → Tv → Prop} (nd : NdV M) (pv : PtV M) (rm : RmV M) (w : World) (hvx : Vars w) : Calls Tryz.prog 6 #[] w (Aye w) := by
  have HVX := Lib.hid hvx
  have HH := Lib.hid (hash_in 256 w (by decide) (by decide))
  clear hvx
  go_enter Tryz.func6, Tryz.ntmps6
  go_wp2_with fail
  refine HH.out.mono ?_
  rintro _ w1 ⟨b, rfl, hb, hH, hB⟩
  have HN1 := Lib.hid hb
  have b1 := bldEntry_1
  have bk := bldKey_64
  have b2 := bldEntry_64
  have bs : ∀ w : World, bsE w 2 #[(0, .agg (enC (e8a (some ⟨w1.heap.size, 0, none⟩))).toArray), (1, .agg (enC (e9b (some ⟨w1.heap.size + 1, 0, none⟩))).toArray)] = .ok (.value (.slice (some ⟨w.heap.size, 0, none⟩) 2 2)) (w.alloc (.cells (enC (e8a (some ⟨w1.heap.size, 0, none⟩)) ++ enC (e9b (some ⟨w1.heap.size + 1, 0, none⟩))).toArray 35)) := fun w => bsE9_two _ _ rfl rfl w
  obtain ⟨ea, hea⟩ : ∃ e, e = e8a (some ⟨w1.heap.size, 0, none⟩) := ⟨_, rfl⟩
  obtain ⟨eb, heb⟩ : ∃ e, e = e9b (some ⟨w1.heap.size + 1, 0, none⟩) := ⟨_, rfl⟩
  obtain ⟨Y1, hY1⟩ : ∃ Y, Y = w1.alloc (.cells #[Value.int .u8 1] 5) := ⟨_, rfl⟩
  obtain ⟨Y2, hY2⟩ : ∃ Y, Y = Y1.alloc (.cells #[Value.int .u8 2] 5) := ⟨_, rfl⟩
  obtain ⟨Y, hY⟩ : ∃ Y, Y = Y2.alloc (.cells (enC ea ++ enC eb).toArray 35) := ⟨_, rfl⟩
  have hb1 : Below w1.heap.size w1 Y1 := by rw [hY1]; exact (Below.refl _ _).alloc (Nat.le_refl _) _
  have hb2 : Below Y1.heap.size Y1 Y2 := by rw [hY2]; exact (Below.refl _ _).alloc (Nat.le_refl _) _
  have hb3 : Below Y2.heap.size Y2 Y := by rw [hY]; exact (Below.refl _ _).alloc (Nat.le_refl _) _
  have hs1 : Y1.heap.size = w1.heap.size + 1 := by rw [hY1]; simp
  have hs2 : Y2.heap.size = w1.heap.size + 1 + 1 := by rw [hY2]; simp [hs1]
  have hoka : EnOk Y1 ea := by
    rw [hea, hY1]
    exact ⟨rfl, Nat.le_refl 1, BA_row (l := [1]) (heap_alloc_new w1 _)⟩
  have hokb : EnOk Y2 eb := by
    rw [heb, hY2, ← hs1]
    exact ⟨rfl, Nat.le_refl 1, BA_row (l := [2]) (heap_alloc_new Y1 _)⟩
  have hEA : EA Y (some ⟨w1.heap.size + 1 + 1, 0, none⟩) [ea, eb] := by
    rw [← hs2, hY]
    exact two_ea Y2 ea eb (hoka.below hb2) hokb _
  have hbY : Below w1.heap.size w1 Y := (hb1.trans (hb2.mono hb1.size)).trans (hb3.mono (Nat.le_trans hb1.size hb2.size))
  have hev : ∀ e ∈ ([ea, eb] : List En), e.v.length ≤ 1000 := fun e he => by
    rcases List.mem_cons.1 he with rfl | he2
    · rw [hea]; exact (show 1 ≤ 1000 by decide)
    · rw [List.mem_singleton.1 he2, heb]; exact (show 1 ≤ 1000 by decide)
  have hfold : (([ea, eb] : List En).map En.ent).foldl putK [] = [E8a, E9b] := by rw [hea, heb]; exact put_64
  have HHY := Lib.hid (hH.keep (Keep.of_below (L := fun _ => False) hbY) fun h => h)
  have HVY := Lib.hid ((HVX.out.below hB).below hbY)
  have HBY := Lib.hid (hB.trans (hbY.mono hB.size))
  have HPA := Lib.hid (pv.all Y b 256 0 [] .nil (some ⟨w1.heap.size + 1 + 1, 0, none⟩) 2 [ea, eb] HHY.out (by decide) HVY.out (nd.nil _ _) map_none (by decide) hEA (show 2 ≤ 20 by decide) hev)
  rw [hfold, show ([ea, eb] : List En).length = 2 from rfl, show (Tv.nil).val = .pointer none from rfl] at HPA
  have HE1 := Lib.hid hea
  have HE2 := Lib.hid heb
  have HY : Hid (Y = ((w1.alloc (.cells #[Value.int .u8 1] 5)).alloc (.cells #[Value.int .u8 2] 5)).alloc (.cells (enC ea ++ enC eb).toArray 35)) := by show _ = _; rw [hY, hY2, hY1]
  clear hb hH hB HH HVX hea heb hY1 hY2 hY hb1 hb2 hb3 hs1 hs2 hoka hokb hEA hbY hev hfold
  unfold ptr at HPA ⊢
  go_wp2_with fail
  rw [← HE1.out, ← HE2.out, ← HY.out]
  clear HE1 HE2 HY bs b1 b2
  refine HPA.out.mono ?_
  rintro _ w2 ⟨T2, rfl, hI, hm⟩
  obtain ⟨c2, hc2, hH2⟩ := hm.hs
  obtain ⟨p2, hp2⟩ := val_ptr nd hm.ms
  have HP2 := Lib.hid hp2
  have HI2 := Lib.hid hI
  have HM2 := Lib.hid hm.ms
  have HH2 := Lib.hid hH2
  have HC2 := Lib.hid hc2
  have HB2 := Lib.hid (keep_new HBY.out HN1.out hm.keep)
  have HV2 := Lib.hid (HVY.out.hs HHY.out hm.keep)
  rw [hp2]
  clear hI hm hc2 hH2 hp2 HPA HBY HHY HVY
  have b0 := bldKey_none
  have HR := Lib.hid (rm.remove w2 b 256 c2 [E8a, E9b] T2 z26 HH2.out (by have := HC2.out; omega) HV2.out HM2.out HI2.out (show 2 ≤ 100000 by decide) rfl)
  rw [has_a, rm_a, HP2.out] at HR
  unfold ptr at HR
  go_wp2_with fail
  refine HR.out.mono ?_
  rintro _ w3 ⟨T3, rfl, hI, hm, _⟩
  obtain ⟨v3, hT3⟩ := leaf_of hI
  subst hT3
  obtain ⟨p3, hp3⟩ : ∃ p, v3 = .pointer p := val_ptr nd hm.ms
  subst hp3
  obtain ⟨c3, hc3, hH3⟩ := hm.hs
  have HM3 := Lib.hid hm.ms
  have HT3 := Lib.hid (nd.hs HM2.out HH2.out hm.keep)
  have HH3 := Lib.hid hH3
  have HC3 : Hid (c3 ≤ 3000) := by show _ ≤ _; have := HC2.out; omega
  have HB3 := Lib.hid (keep_new HB2.out HN1.out hm.keep)
  have HV3 := Lib.hid (HV2.out.hs HH2.out hm.keep)
  rw [show (Tv.leaf (.pointer p3) E9b).val = .pointer p3 from rfl]
  clear hI hm hc3 hH3 HR HM2 HH2 HB2 HV2 b0
  have bj := bldKey_1k
  have HR := Lib.hid (rm.remove w3 b 256 c3 [E8a, E9b] T2 k1k HH3.out (by have := HC3.out; omega) HV3.out HT3.out HI2.out (show 2 ≤ 100000 by decide) rfl)
  rw [has_1, HP2.out] at HR
  unfold ptr at HR
  go_wp2_with fail
  refine HR.out.mono ?_
  rintro _ w4 ⟨T4, rfl, _, hm, hno⟩
  obtain ⟨rfl, hH4⟩ := hno trivial
  have HM4 := Lib.hid (nd.hs HM3.out HH3.out hm.keep)
  have HT4 := Lib.hid hm.ms
  have HH4 := Lib.hid hH4
  have HB4 := Lib.hid (keep_new HB3.out HN1.out hm.keep)
  have HV4 := Lib.hid (HV3.out.hs HH3.out hm.keep)
  rw [HP2.out]
  clear hm hno hH4 HR HM3 HT3 HH3 HB3 HV3 bj
  have b0 := bldKey_none
  have bq := bsK_alive
  obtain ⟨Z, hZ⟩ : ∃ Z, Z = w4.alloc (.cells (bA (k64 ++ (z26 ++ k64))) 32) := ⟨_, rfl⟩
  have hbZ : Below w4.heap.size w4 Z := by rw [hZ]; exact (Below.refl _ _).alloc (Nat.le_refl _) _
  have hks : KS Z (some ⟨w4.heap.size, 0, none⟩) [k64, z26, k64] := by rw [hZ]; exact ks_alive w4 _
  have HR := Lib.hid (rm.all Z b 256 c3 [E8a, E9b] T4 (some ⟨w4.heap.size, 0, none⟩) 3 [k64, z26, k64] (HH4.out.keep (Keep.of_below (L := fun _ => False) hbZ) fun h => h) (by have := HC3.out; omega) (HV4.out.below hbZ) (nd.below HT4.out hbZ) HI2.out (show 2 ≤ 10000 by decide) hks (show 3 ≤ 20 by decide))
  rw [cnt_a, rms_a, HP2.out, show ([k64, z26, k64] : List (List UInt8)).length = 3 from rfl] at HR
  unfold ptr at HR
  have HHZ := Lib.hid (HH4.out.keep (Keep.of_below (L := fun _ => False) hbZ) fun h => h)
  have HBZ := Lib.hid (HB4.out.trans (hbZ.mono HB4.out.size))
  have HMZ := Lib.hid (nd.below HM4.out hbZ)
  have HZ := Lib.hid hZ
  clear hZ hbZ hks HM4 HT4 HH4 HB4 HV4
  go_wp2_with fail
  rw [← HZ.out]
  clear HZ bq
  refine HR.out.mono ?_
  rintro _ w5 ⟨T5, rfl, hI, hm⟩
  have hT5 := nil_of hI
  subst hT5
  have HM5 := Lib.hid (nd.hs HMZ.out HHZ.out hm.keep)
  have HB5 := Lib.hid (keep_new HBZ.out HN1.out hm.keep)
  rw [show (Tv.nil).val = .pointer none from rfl]
  clear hI hm HR HMZ HHZ HBZ
  have HK := Lib.hid (nd.kind w5 256 _ HM5.out)
  rw [show (Tv.leaf (.pointer p3) E9b).val = .pointer p3 from rfl, show kindT (Tv.leaf (.pointer p3) E9b).tr = 1 from rfl] at HK
  go_wp2_with fail
  refine HK.out.mono ?_
  rintro _ w6 ⟨rfl, hB⟩
  have HB6 := Lib.hid (HB5.out.trans (hB.mono HB5.out.size))
  have HEN := Lib.hid (nd.entry w6 256 _ (nd.below HM5.out hB))
  rw [show (Tv.leaf (.pointer p3) E9b).val = .pointer p3 from rfl, show entT (Tv.leaf (.pointer p3) E9b).tr = E9b from rfl] at HEN
  clear hB HK HM5 HB5
  go_wp2_with fail
  refine HEN.out.mono ?_
  rintro _ w7 ⟨A7, c7, rfl, _, hB⟩
  have HB7 := Lib.hid (HB6.out.trans (hB.mono HB6.out.size))
  have fk : ∀ w, (Instr.field 35 (.agg (enC ⟨E9b.k, A7, E9b.v, c7⟩).toArray) 0).run Tryz.prog w = .ok (.agg (bA k64)) w := fun w => field_entryKey ⟨E9b.k, A7, E9b.v, c7⟩ rfl w
  have ek : ∀ p q w, eqA .eql 32 p q w (.agg (bA k64)) (.agg (bA k64)) = .ok (.value (.bool true)) w := fun p q w => by rw [eqKey _ _ rfl rfl, decide_eq_true rfl]
  have ep := eql_ptr p2
  clear hB HEN HB6
  go_wp2_with fail
  go_ret
  exact ⟨rfl, HB7.out⟩
end Go.Proofs.YtjhpnlnghaljaaaGreatDoor

/- The walk of RemoveRemoves over contracts. -/
namespace Go.Proofs.YtjhpnlnghaljaaaGreatDoor
open Go.RowKit

theorem has_get (es : List En) (k : List UInt8) : (getE es k).isSome = hasK (es.map En.ent) k := by
  unfold getE hasK
  induction es with
  | nil => rfl
  | cons x r ih =>
    rw [List.find?_cons, List.map_cons, List.any_cons]
    by_cases h : x.k = k
    · rw [show decide (x.k = k) = true from decide_eq_true h, show decide (x.ent.k = k) = true from decide_eq_true h]; rfl
    · rw [show decide (x.k = k) = false from decide_eq_false h, show decide (x.ent.k = k) = false from decide_eq_false h, Bool.false_or]; exact ih
theorem rmE_mem {es : List En} {k : List UInt8} {e : En} (h : e ∈ rmE es k) : e ∈ es := (List.mem_filter.1 h).1
end Go.Proofs.YtjhpnlnghaljaaaGreatDoor

/- The walk of RemoveKeeps over contracts. -/
namespace Go.Proofs.YtjhpnlnghaljaaaGreatDoor
open Go.RowKit
end Go.Proofs.YtjhpnlnghaljaaaGreatDoor

/- The walk of RemoveAll over contracts. -/
namespace Go.Proofs.YtjhpnlnghaljaaaGreatDoor
open Go.RowKit

theorem KS.ld {w : World} {g o : Nat} {k : List UInt8} (h : w.rangeAt g o (k.map bv)) (hk : k.length = 32) : ldA 32 w (.pointer (some ⟨g, o, none⟩)) = .ok (.value (.agg (bA k))) w :=
  ldA_of (t := 32) (w := w) (b := g) (o := o) (cs := k.map bv) h Tryz.underlying32 (by rw [List.length_map, hk]; exact infoKey)
theorem Hs.ks {w w' : World} {b : Nat} {n : Int} {c : Nat} {A : Option Addr} {ks : List (List UInt8)} (h : Hs w b n c) (hA : KS w A ks) (k : Keep (fun i => i = b) w w') : KS w' A ks := fun i key hi => by
  obtain ⟨h1, g, o, rfl, h3⟩ := hA i key hi
  refine ⟨h1, g, o, rfl, fun j v hv => k.cellAt (h3 j v hv) fun e => ?_⟩
  have e3 : g = b := e
  subst e3
  have h4 := h3 j v hv
  rw [cell_of_cells h] at h4
  obtain ⟨y, hy, rfl⟩ : ∃ y, key[j]? = some y ∧ bv y = v := by
    rw [List.getElem?_map] at hv
    obtain ⟨y, hy, he⟩ := Option.map_eq_some_iff.1 hv
    exact ⟨y, hy, he⟩
  obtain ⟨q, hq⟩ : ∃ q, q = o + i * 32 + j := ⟨_, rfl⟩
  rw [← hq] at h4
  match q, h4 with
  | 0, h4 => cases h4
  | 1, h4 => cases h4
  | q + 2, h4 => simp at h4
theorem foldR_ent (ks : List (List UInt8)) : ∀ m : List En, (ks.foldl rmE m).map En.ent = ks.foldl rmK (m.map En.ent) := by
  induction ks with
  | nil => exact fun m => rfl
  | cons k r ih =>
    intro m
    rw [List.foldl_cons, List.foldl_cons, ih, rmE_ent]
theorem foldR_len (ks : List (List UInt8)) : ∀ m : List En, (ks.foldl rmE m).length ≤ m.length := by
  induction ks with
  | nil => exact fun m => Nat.le_refl _
  | cons k r ih => exact fun m => Nat.le_trans (ih _) (rmE_len m k)
theorem foldR_mem (ks : List (List UInt8)) : ∀ (m : List En) (e : En), e ∈ ks.foldl rmE m → e ∈ m := by
  induction ks with
  | nil => exact fun m e h => h
  | cons k r ih => exact fun m e h => rmE_mem (ih _ e h)
theorem foldR_take {ks : List (List UInt8)} {i : Nat} {k : List UInt8} (m : List En) (h : ks[i]? = some k) : (ks.take (i + 1)).foldl rmE m = rmE ((ks.take i).foldl rmE m) k := by
  obtain ⟨hi, rfl⟩ := List.getElem?_eq_some_iff.1 h
  rw [List.take_succ_eq_append_getElem hi, List.foldl_append]
  rfl
theorem cntK_drop {ks : List (List UInt8)} {i : Nat} {k : List UInt8} (l : List Ent) (h : ks[i]? = some k) : cntK l (ks.drop i) = (if hasK l k then 1 else 0) + cntK (rmK l k) (ks.drop (i + 1)) := by
  obtain ⟨hi, rfl⟩ := List.getElem?_eq_some_iff.1 h
  rw [List.drop_eq_getElem_cons hi]
  rfl
end Go.Proofs.YtjhpnlnghaljaaaGreatDoor
