/- Several texts in one: Om Ke Kf Kg Kh Ki Kj Kk. -/
import Derived.Test.YtjnhhcbplhmemaaDoorMO
import Derived.Test.YtjnhhcbplhmemaaDoorML
import Derived.Test.YtjnhhcbplhmemaaDoorNg
import Derived.Test.YtjnhhcbplhmemaaDoorMV
/- The walk of FindUnder over contracts (by program: gen-tpl8-laws.py). -/
namespace Go.Proofs.YtjnhhcbplhmemaaDoor
open Go.RowKit

/-- A key with a number in memory. -/
theorem kb_key {X w' : World} {g : Nat} {t : TypeId} {fr : Nat × Nat} {k : List UInt8} {d : Int} (h : Below X.heap.size X w') (hg : X.heap[g]? = some (.cells (k.map bv ++ [Value.int .i64 d]).toArray t fr)) (hk : k.length = 32) :
    ldA 31 w' (.pointer (some ⟨g, 0, none⟩)) = .ok (.value (.agg (bA k))) w' := by
  have hg2 : w'.heap[g]? = some (.cells (k.map bv ++ [Value.int .i64 d]).toArray t fr) := by rw [h.block g (lt_of_heap hg)]; exact hg
  have := ldA_of (t := 31) (w := w') (b := g) (o := 0) (cs := k.map bv) (fun j v hv => by
    rw [Nat.zero_add, cell_of_cells hg2]
    have hlt := (List.getElem?_eq_some_iff.1 hv).1
    simp only [List.getElem?_toArray]
    rw [List.getElem?_append_left hlt]
    exact hv) Tryd.underlying31 (by rw [List.length_map, hk]; exact infoKey)
  exact this
theorem kb_bits {X w' : World} {g : Nat} {t : TypeId} {fr : Nat × Nat} {k : List UInt8} {d : Int} (h : Below X.heap.size X w') (hg : X.heap[g]? = some (.cells (k.map bv ++ [Value.int .i64 d]).toArray t fr)) (hk : k.length = 32) :
    w'.cell? ⟨g, 32, none⟩ = some (.int .i64 d) := by
  have hg2 : w'.heap[g]? = some (.cells (k.map bv ++ [Value.int .i64 d]).toArray t fr) := by rw [h.block g (lt_of_heap hg)]; exact hg
  rw [cell_of_cells hg2]
  simp only [List.getElem?_toArray]
  rw [List.getElem?_append_right (by simp [hk])]
  simp [hk]
end Go.Proofs.YtjnhhcbplhmemaaDoor

/- The walk of WalkRanks over contracts. -/
namespace Go.Proofs.YtjnhhcbplhmemaaDoor
open Go.RowKit

set_option maxHeartbeats 16000000 in
set_option maxRecDepth 100000 in
theorem ranks_in {M : World → Int → Tv → Prop} (nd : NdV M) (pv : PtV M) (wk : WkV M) (n : Int) (A : Option Addr) (c : Nat) (es : List En) (k : List UInt8) (hk : k.length = 32) (W : World) (hA : EA W A es) (hl : es.length ≤ 12) (hvl : ∀ e ∈ es, e.v.length ≤ 1000) (hf : fewK (es.map En.ent) = true) (hvx : Vars W) (h0 : 0 ≤ n) (h1 : n ≤ 256) :
    Calls Tryd.prog 6 #[.int .i64 n, .slice A es.length c, .agg (bA k)] W (Aye W) := by
  obtain ⟨X, hX⟩ : ∃ X, X = W.alloc (.cells (bA k) 31) := ⟨_, rfl⟩
  have hb0 : Below W.heap.size W X := by rw [hX]; exact (Below.refl _ _).alloc (Nat.le_refl _) _
  have hr0 : RowB X W.heap.size 31 k := by rw [hX]; exact RowB.alloc W k _
  have HR0 := Lib.hid hr0
  have HK := Lib.hid hk
  clear hr0
  have HX := Lib.hid hX
  have HB0 := Lib.hid hb0
  have HT := Lib.hid (tree_in nd n A c es X (hA.below hb0) hl hvl hf (hvx.below hb0) h0 h1)
  have HVE : Hid (∀ e ∈ ofE es, e.v.length ≤ 1000) := fun e he => hvl e (ofE_mem he)
  have HLE : Hid ((ofE es).length ≤ 12) := Nat.le_trans (ofE_len es) hl
  have HAS : Hid (Asc ((ofE es).map En.ent)) := by
    show _
    rw [ofE_ent]
    exact ofK_asc fun x hx => by
      obtain ⟨e, he, rfl⟩ := List.mem_map.1 hx
      obtain ⟨i, hi⟩ := List.getElem?_of_mem he
      exact (hA i e hi).1.key
  clear hA hvl hf hvx hX hb0
  go_enter Tryd.func6, Tryd.ntmps6
  go_wp2_with fail
  rw [← HX.out]
  clear HX
  refine HT.out.mono ?_
  rintro _ w2 ⟨A2, c2, T, rfl, hc2, hI, hF⟩
  have HI := Lib.hid hI
  have HF2 := Lib.hid hF
  obtain ⟨O, hO⟩ : ∃ O, O = ofE es := ⟨_, rfl⟩
  rw [← hO] at HI HF2 HVE HLE HAS hc2 ⊢
  obtain ⟨pT, hpT⟩ := val_ptr nd hF.ms
  have HPT := Lib.hid hpT
  rw [hpT]
  have HLK : Hid ((O.map En.ent).length ≤ 100) := by show _ ≤ _; rw [List.length_map]; have := HLE.out; omega
  have HAL : Hid (∀ w, Vars w → Calls Tryd.prog 10 #[] w fun e w' => e = .returned (.bool true) ∧ Below w.heap.size w w') := fun w h => alive11_c nd pv wk w h
  have lk : ∀ q : Later w2, ldA 31 q.w (.pointer (some ⟨W.heap.size, 0, none⟩)) = .ok (.value (.agg (bA k))) q.w := fun q => ((HR0.out.below HF2.out.bel).below q.h).ldKey HK.out
  obtain ⟨N, hN⟩ : ∃ N, N = rankK (O.map En.ent) k := ⟨_, rfl⟩
  have HRW : Hid (∀ q : Later w2, Calls Tryd.prog 17 #[.pointer pT, .agg (bA k)] q.w fun e w'' => e = .returned (.int .i64 (N : Int)) ∧ ∃ y : Later w2, w'' = y.w) := fun q => by
    have := wk.rank q.w n T (O.map En.ent) k (nd.below HF2.out.ms q.h) HI.out HAS.out HLK.out HK.out
    rw [HPT.out, ← hN] at this
    exact Later.call this
  have HRR : Hid (∀ q : Later w2, Calls Tryd.prog 15 #[.slice A2 O.length c2, .agg (bA k)] q.w fun e w'' => e = .returned (.int .i64 (N : Int)) ∧ ∃ y : Later w2, w'' = y.w) := fun q => by
    have := rank11_c A2 c2 O k q.w (HF2.out.ea.below q.h) (by have := HLE.out; omega) HK.out
    rw [← hN] at this
    exact Later.call this
  have HA2 : Hid (∀ q : Later w2, Calls Tryd.prog 10 #[] q.w fun e w'' => e = .returned (.bool true) ∧ ∃ y : Later w2, w'' = y.w) := fun q => Later.call (HAL.out q.w (HF2.out.vars.below q.h))
  have qn : ((N : Int) == (N : Int)) = true := beq_self_eq_true _
  clear hc2 hI hF HT hO hpT hN HAL
  go_wp2_with fail
  refine wp_region_later (by kernel_rfl) (by kernel_rfl) ?_
  repeat (go_big_quiet_step ((first | (go_at_call 10; exact HA2.out _) | (go_at_call 17; exact HRW.out _) | (go_at_call 15; exact HRR.out _))))
  refine wpQuiet_nil ?_
  rintro _ ⟨x, rfl⟩
  have HB3 := Lib.hid (HF2.out.bel.trans (x.h.mono HF2.out.bel.size))
  clear HA2 HRW HRR lk qn
  go_wp2_with fail
  go_ret
  exact ⟨rfl, HB0.out.trans (HB3.out.mono HB0.out.size)⟩
set_option maxHeartbeats 16000000 in
set_option maxRecDepth 100000 in
/-- Other bits, or entries that are not few: alive. -/
theorem ranks_out {M : World → Int → Tv → Prop} (nd : NdV M) (pv : PtV M) (wk : WkV M) (n : Int) (A : Option Addr) (c : Nat) (es : List En) (k : List UInt8) (W : World) (hA : EA W A es) (hvx : Vars W) (h : (n < 0 ∨ 256 < n) ∨ fewK (es.map En.ent) = false) :
    Calls Tryd.prog 6 #[.int .i64 n, .slice A es.length c, .agg (bA k)] W (Aye W) := by
  obtain ⟨X, hX⟩ : ∃ X, X = W.alloc (.cells (bA k) 31) := ⟨_, rfl⟩
  have hb0 : Below W.heap.size W X := by rw [hX]; exact (Below.refl _ _).alloc (Nat.le_refl _) _
  have HX := Lib.hid hX
  have HB0 := Lib.hid hb0
  have HVX := Lib.hid (hvx.below hb0)
  have HT := Lib.hid (tree_out n A c es X (hA.below hb0) h)
  have HAL := Lib.hid (fun w h => alive11_c nd pv wk w h)
  clear hA hvx h hX hb0
  go_enter Tryd.func6, Tryd.ntmps6
  go_wp2_with fail
  rw [← HX.out]
  clear HX
  refine HT.out.mono ?_
  rintro _ w2 ⟨rfl, hB⟩
  have HB := Lib.hid hB
  clear hB HT
  go_wp2_with fail
  refine (HAL.out w2 (HVX.out.below HB.out)).mono ?_
  rintro _ w3 ⟨rfl, hB⟩
  have HB3 := Lib.hid (HB.out.trans (hB.mono HB.out.size))
  clear hB HAL
  go_wp2_with fail
  go_ret
  exact ⟨rfl, HB0.out.trans (HB3.out.mono HB0.out.size)⟩
end Go.Proofs.YtjnhhcbplhmemaaDoor

/- The walk of WalkNth over contracts. -/
namespace Go.Proofs.YtjnhhcbplhmemaaDoor
open Go.RowKit

set_option maxHeartbeats 16000000 in
set_option maxRecDepth 100000 in
theorem nth_off {M : World → Int → Tv → Prop} (nd : NdV M) (pv : PtV M) (wk : WkV M) (n : Int) (A : Option Addr) (c : Nat) (es : List En) (i : Int) (hi0 : -9223372036854775808 ≤ i) (hi1 : i ≤ 9223372036854775807) (hq : ¬ (0 ≤ i ∧ i < ((ofE es).length : Int))) (W : World) (hA : EA W A es) (hl : es.length ≤ 12) (hvl : ∀ e ∈ es, e.v.length ≤ 1000) (hf : fewK (es.map En.ent) = true) (hvx : Vars W) (h0 : 0 ≤ n) (h1 : n ≤ 256) :
    Calls Tryd.prog 7 #[.int .i64 n, .slice A es.length c, .int .i64 i] W (Aye W) := by
  obtain ⟨X, hX⟩ : ∃ X, X = W := ⟨_, rfl⟩
  have hb0 : Below W.heap.size W X := by rw [hX]; exact Below.refl _ _
  have HQ := Lib.hid hq
  have HX := Lib.hid hX
  have HB0 := Lib.hid hb0
  have HT := Lib.hid (tree_in nd n A c es X (hA.below hb0) hl hvl hf (hvx.below hb0) h0 h1)
  have HVE : Hid (∀ e ∈ ofE es, e.v.length ≤ 1000) := fun e he => hvl e (ofE_mem he)
  have HLE : Hid ((ofE es).length ≤ 12) := Nat.le_trans (ofE_len es) hl
  have HAS : Hid (Asc ((ofE es).map En.ent)) := by
    show _
    rw [ofE_ent]
    exact ofK_asc fun x hx => by
      obtain ⟨e, he, rfl⟩ := List.mem_map.1 hx
      obtain ⟨i, hi⟩ := List.getElem?_of_mem he
      exact (hA i e hi).1.key
  clear hA hvl hf hvx hX hb0 hq
  go_enter Tryd.func7, Tryd.ntmps7
  go_wp2_with fail
  rw [← HX.out]
  clear HX
  refine HT.out.mono ?_
  rintro _ w2 ⟨A2, c2, T, rfl, hc2, hI, hF⟩
  have HI := Lib.hid hI
  have HF2 := Lib.hid hF
  obtain ⟨O, hO⟩ : ∃ O, O = ofE es := ⟨_, rfl⟩
  rw [← hO] at HQ HI HF2 HVE HLE HAS hc2 ⊢
  obtain ⟨pT, hpT⟩ := val_ptr nd hF.ms
  have HPT := Lib.hid hpT
  rw [hpT]
  have HLK : Hid ((O.map En.ent).length ≤ 100) := by show _ ≤ _; rw [List.length_map]; have := HLE.out; omega
  have HAL : Hid (∀ w, Vars w → Calls Tryd.prog 10 #[] w fun e w' => e = .returned (.bool true) ∧ Below w.heap.size w w') := fun w h => alive11_c nd pv wk w h
  have HN := Lib.hid (wk.nth w2 n T (O.map En.ent) i HF2.out.ms HI.out HAS.out HLK.out hi0 hi1)
  rw [hpT, List.length_map] at HN
  clear hI hF HT hO hpT
  go_wp2_with fail
  refine HN.out.mono ?_
  rintro _ w3 ⟨x, rfl, hok, hx, hz, hB⟩
  have HX3 := Lib.hid hx
  have HZ3 := Lib.hid hz
  have HF3 := Lib.hid (HF2.out.below nd hB)
  have HKX := Lib.hid hok.key
  have HOK3 := Lib.hid hok
  have st := stE_new (w := w3) (e := x) (z := ⟨z26, none, [], 0⟩) hok.key rfl
  obtain ⟨Y, hY⟩ : ∃ Y, Y = w3.alloc (.cells (enC x).toArray 34) := ⟨_, rfl⟩
  have hbY : Below w3.heap.size w3 Y := by rw [hY]; exact (Below.refl _ _).alloc (Nat.le_refl _) _
  have hrY : Y.rangeAt w3.heap.size 0 (enC x) := by rw [hY]; exact ent_made w3 x _
  have HFY := Lib.hid (HF3.out.below nd hbY)
  have HRY := Lib.hid hrY
  have HOKY := Lib.hid (hok.below hbY)
  have HY := Lib.hid hY
  have HI0 := Lib.hid hi0
  have HI1 := Lib.hid hi1
  have oL := HLE.out
  have HC2 := Lib.hid hc2
  clear hok hx hz hB hY hbY hrY HN HF2 HF3 hi0 hi1 hc2
  obtain ⟨hzk, hzv⟩ := HZ3.out HQ.out
  obtain ⟨q, hqq⟩ : ∃ q, q = decide (0 ≤ i ∧ i < (O.length : Int)) := ⟨_, rfl⟩
  have hqf : q = false := by rw [hqq]; exact decide_eq_false HQ.out
  rw [← hqq, hqf]
  have lk := range_key HRY.out HKX.out
  have lv := range_val HRY.out HKX.out
  rw [hzk, HY.out] at lk
  rw [hzv, HY.out] at lv
  rw [Nat.zero_add] at lv
  have HV := Lib.hid (HAL.out Y HFY.out.vars)
  have HZK := Lib.hid hzk
  have HZV := Lib.hid hzv
  have HQQ := Lib.hid hqq
  clear hqq hzk hzv lk lv hqf
  have hcase : decide (i < 0) = true ∨ (decide (i < 0) = false ∧ decide ((O.length : Int) ≤ i) = true) := by
    rcases Int.lt_or_le i 0 with h | h
    · exact .inl (decide_eq_true h)
    · exact .inr ⟨decide_eq_false (by omega), decide_eq_true (by have := HQ.out; omega)⟩
  rcases hcase with hd | ⟨hd, hd2⟩
  · go_wp2_with fail
    rw [← HY.out]
    refine HV.out.mono ?_
    rintro _ w4 ⟨rfl, hB⟩
    have lk := range_key (range_below HRY.out hB) HKX.out
    have lv := range_val (range_below HRY.out hB) HKX.out
    rw [HZK.out] at lk
    rw [HZV.out, Nat.zero_add] at lv
    have b0 := bldKey_none w4
    have qk : ∀ x y w, eqA .eql 31 x y w (.agg (bA z26)) (.agg (bA z26)) = .ok (.value (.bool true)) w := fun x y w => by rw [eqKey z26 z26 rfl rfl, decide_eq_true rfl]
    have HB4 := Lib.hid (HFY.out.bel.trans (hB.mono HFY.out.bel.size))
    clear hB HV st
    go_wp2_with fail
    go_ret
    exact ⟨rfl, HB0.out.trans (HB4.out.mono HB0.out.size)⟩
  · go_wp2_with fail
    rw [← HY.out]
    refine HV.out.mono ?_
    rintro _ w4 ⟨rfl, hB⟩
    have lk := range_key (range_below HRY.out hB) HKX.out
    have lv := range_val (range_below HRY.out hB) HKX.out
    rw [HZK.out] at lk
    rw [HZV.out, Nat.zero_add] at lv
    have b0 := bldKey_none w4
    have qk : ∀ x y w, eqA .eql 31 x y w (.agg (bA z26)) (.agg (bA z26)) = .ok (.value (.bool true)) w := fun x y w => by rw [eqKey z26 z26 rfl rfl, decide_eq_true rfl]
    have HB4 := Lib.hid (HFY.out.bel.trans (hB.mono HFY.out.bel.size))
    clear hB HV st
    go_wp2_with fail
    go_ret
    exact ⟨rfl, HB0.out.trans (HB4.out.mono HB0.out.size)⟩
set_option maxHeartbeats 16000000 in
set_option maxRecDepth 100000 in
theorem nth_in {M : World → Int → Tv → Prop} (nd : NdV M) (pv : PtV M) (wk : WkV M) (n : Int) (A : Option Addr) (c : Nat) (es : List En) (m : Nat) (hm : m < (ofE es).length) (W : World) (hA : EA W A es) (hl : es.length ≤ 12) (hvl : ∀ e ∈ es, e.v.length ≤ 1000) (hf : fewK (es.map En.ent) = true) (hvx : Vars W) (h0 : 0 ≤ n) (h1 : n ≤ 256) :
    Calls Tryd.prog 7 #[.int .i64 n, .slice A es.length c, .int .i64 (m : Int)] W (Aye W) := by
  obtain ⟨X, hX⟩ : ∃ X, X = W := ⟨_, rfl⟩
  have hb0 : Below W.heap.size W X := by rw [hX]; exact Below.refl _ _
  have HQ := Lib.hid hm
  have hi0 : -9223372036854775808 ≤ (m : Int) := by omega
  have hi1 : (m : Int) ≤ 9223372036854775807 := by have := ofE_len es; omega
  have HX := Lib.hid hX
  have HB0 := Lib.hid hb0
  have HT := Lib.hid (tree_in nd n A c es X (hA.below hb0) hl hvl hf (hvx.below hb0) h0 h1)
  have HVE : Hid (∀ e ∈ ofE es, e.v.length ≤ 1000) := fun e he => hvl e (ofE_mem he)
  have HLE : Hid ((ofE es).length ≤ 12) := Nat.le_trans (ofE_len es) hl
  have HAS : Hid (Asc ((ofE es).map En.ent)) := by
    show _
    rw [ofE_ent]
    exact ofK_asc fun x hx => by
      obtain ⟨e, he, rfl⟩ := List.mem_map.1 hx
      obtain ⟨i, hi⟩ := List.getElem?_of_mem he
      exact (hA i e hi).1.key
  clear hA hvl hf hvx hX hb0 hm
  go_enter Tryd.func7, Tryd.ntmps7
  go_wp2_with fail
  rw [← HX.out]
  clear HX
  refine HT.out.mono ?_
  rintro _ w2 ⟨A2, c2, T, rfl, hc2, hI, hF⟩
  have HI := Lib.hid hI
  have HF2 := Lib.hid hF
  obtain ⟨O, hO⟩ : ∃ O, O = ofE es := ⟨_, rfl⟩
  rw [← hO] at HQ HI HF2 HVE HLE HAS hc2 ⊢
  obtain ⟨pT, hpT⟩ := val_ptr nd hF.ms
  have HPT := Lib.hid hpT
  rw [hpT]
  have HLK : Hid ((O.map En.ent).length ≤ 100) := by show _ ≤ _; rw [List.length_map]; have := HLE.out; omega
  have HAL : Hid (∀ w, Vars w → Calls Tryd.prog 10 #[] w fun e w' => e = .returned (.bool true) ∧ Below w.heap.size w w') := fun w h => alive11_c nd pv wk w h
  have HN := Lib.hid (wk.nth w2 n T (O.map En.ent) (m : Int) HF2.out.ms HI.out HAS.out HLK.out hi0 hi1)
  rw [hpT, List.length_map] at HN
  clear hI hF HT hO hpT
  go_wp2_with fail
  refine HN.out.mono ?_
  rintro _ w3 ⟨x, rfl, hok, hx, hz, hB⟩
  have HX3 := Lib.hid hx
  have HZ3 := Lib.hid hz
  have HF3 := Lib.hid (HF2.out.below nd hB)
  have HKX := Lib.hid hok.key
  have HOK3 := Lib.hid hok
  have st := stE_new (w := w3) (e := x) (z := ⟨z26, none, [], 0⟩) hok.key rfl
  obtain ⟨Y, hY⟩ : ∃ Y, Y = w3.alloc (.cells (enC x).toArray 34) := ⟨_, rfl⟩
  have hbY : Below w3.heap.size w3 Y := by rw [hY]; exact (Below.refl _ _).alloc (Nat.le_refl _) _
  have hrY : Y.rangeAt w3.heap.size 0 (enC x) := by rw [hY]; exact ent_made w3 x _
  have HFY := Lib.hid (HF3.out.below nd hbY)
  have HRY := Lib.hid hrY
  have HOKY := Lib.hid (hok.below hbY)
  have HY := Lib.hid hY
  have HI0 := Lib.hid hi0
  have HI1 := Lib.hid hi1
  have oL := HLE.out
  have HC2 := Lib.hid hc2
  clear hok hx hz hB hY hbY hrY HN HF2 HF3 hi0 hi1 hc2
  have hxe : (O.map En.ent)[m]? = some x.ent := HX3.out (by omega) (by have := HQ.out; omega)
  obtain ⟨e, he, hee⟩ : ∃ e, O[m]? = some e ∧ e.ent = x.ent := by
    rw [List.getElem?_map] at hxe
    obtain ⟨e, h1, h2⟩ := Option.map_eq_some_iff.1 hxe
    exact ⟨e, h1, h2⟩
  have hrk : rankK (O.map En.ent) x.k = m := rank_nth HAS.out (fun y hy => HI.out.sep.len y hy) (x := x.ent) hxe
  have hxv : x.v = e.v := (congrArg Ent.v hee).symm
  have HVX : Hid (x.v.length ≤ 1000) := by show _ ≤ _; rw [hxv]; exact HVE.out e (List.mem_of_getElem? he)
  have HVE1 : Hid (e.v.length ≤ 1000) := HVE.out e (List.mem_of_getElem? he)
  have HLE1 : Hid (∀ v, Below Y.heap.size Y v → ldA 34 v (.pointer (some ⟨w3.heap.size, 0, none⟩)) = .ok (.value (.agg (enC x).toArray)) v) := fun v h => range_ent (range_below HRY.out h) HKX.out
  have LE := HLE1
  have LK : Hid (∀ v, Below Y.heap.size Y v → ldA 31 v (.pointer (some ⟨w3.heap.size, 0, none⟩)) = .ok (.value (.agg (bA x.k))) v) := fun v h => range_key (range_below HRY.out h) HKX.out
  have hqt : decide (0 ≤ (m : Int) ∧ (m : Int) < (O.length : Int)) = true := decide_eq_true ⟨by omega, by have := HQ.out; omega⟩
  rw [hqt]
  obtain ⟨B, hBc⟩ : ∃ B, B = cutA A2 c2 m := ⟨_, rfl⟩
  have sl : ∀ w, (Instr.sliceAt 22 (.slice A2 O.length c2) (some (.int .i64 (m : Int))) (some (.int .i64 ((m : Int) + 1))) none).run Tryd.prog w = .ok (.slice B 1 (c2 - m)) w := fun w => by rw [hBc]; exact cutE_lh A2 O.length c2 m (by have := HC2.out; have := HQ.out; omega) w
  have HSM : Hid (∀ y, Below Y.heap.size Y y → Calls Tryd.prog 13 #[.slice (some ⟨y.heap.size, 0, none⟩) 1 1, .slice B 1 (c2 - m)] (y.alloc (.cells (enC x).toArray 34)) fun e w' => e = .returned (.bool true) ∧ Below (y.alloc (.cells (enC x).toArray 34)).heap.size (y.alloc (.cells (enC x).toArray 34)) w') := fun y hy => by
    have hby : Below y.heap.size y (y.alloc (.cells (enC x).toArray 34)) := (Below.refl _ _).alloc (Nat.le_refl _) _
    have hb2 := hy.trans (hby.mono hy.size)
    have h1 : EA (y.alloc (.cells (enC x).toArray 34)) (some ⟨y.heap.size, 0, none⟩) [x] := by
      have := flat_ea y [x] (fun e he => by rw [List.mem_singleton.1 he]; exact HOKY.out.below hy) 34
      simpa using this
    have h2 := (HFY.out.ea.below hb2).one (c := c2) (by have := HC2.out; omega) he
    rw [← hBc] at h2
    have := same7_c (some ⟨y.heap.size, 0, none⟩) B 1 (c2 - m) [x] [e] _ h1 h2 (by show 1 ≤ 100000; decide) (by show 1 ≤ 100000; decide) (fun z hz => by rw [List.mem_singleton.1 hz]; have := HVX.out; omega) (fun z hz => by rw [List.mem_singleton.1 hz]; have := HVE1.out; omega)
    rwa [show decide ([x].map En.ent = [e].map En.ent) = true from decide_eq_true (by simp [hee])] at this
  have HRK : Hid (∀ y, Below Y.heap.size Y y → Calls Tryd.prog 17 #[.pointer pT, .agg (bA x.k)] y fun e w' => e = .returned (.int .i64 (m : Int)) ∧ Below y.heap.size y w') := fun y hy => by
    have := wk.rank y n T (O.map En.ent) x.k (nd.below HFY.out.ms hy) HI.out HAS.out HLK.out HKX.out
    rwa [HPT.out, hrk] at this
  have wm : IntKind.i64.wrap ((m : Int) + 1) = (m : Int) + 1 := IntWalk.i64_in _ (by have := HQ.out; omega)
  have qn : ((m : Int) == (m : Int)) = true := beq_self_eq_true _
  have bs := bsE_one x HKX.out
  have d1 : decide ((m : Int) < 0) = false := decide_eq_false (by omega)
  have d2 : decide ((O.length : Int) ≤ (m : Int)) = false := decide_eq_false (by have := HQ.out; omega)
  have d3 : decide (O.length ≤ m) = false := decide_eq_false (by have := HQ.out; omega)
  clear hxe he hee hrk hxv hqt hBc
  go_wp2_with fail
  rw [← HY.out]
  clear HY st d1 d2 d3
  refine wp_region_held_drew (S := fun w' => Below Y.heap.size Y w') (by kernel_rfl) ((Below.refl _ _).drew) (fun hHeld => ?_)
  have hb0 : Below Y.heap.size Y Y.drew := (Below.refl _ _).drew
  refine wpAnyH_ready (rs := [0]) (by kernel_rfl) (by simp) ?_
  refine AllReadyH.cons (o := { dst := some 53, op := .call _, type := _, pos := _, after := _, guard := _ }) rfl (fun K hK => ?_) AllReadyH.nil
  go_simp
  refine (HAL.out Y.drew (HFY.out.vars.below (hb0))).mono ?_
  rintro e y1 ⟨rfl, hb⟩
  have hb1 : Below Y.heap.size Y y1 := keeps (hb0) hb
  clear hb
  go_wp2_with fail
  refine hK.out _ _ (hb1) (fun hHeld => ?_)
  clear hK K
  try simp only [Act.put, List.setIfInBounds_toArray, List.set_cons_zero, List.set_cons_succ]
  refine wpAnyH_take (i := 1) (oi := { dst := some 54, op := .move (.tmp 53), type := _, pos := _, after := _, guard := _ }) (v := ?_) rfl (by kernel_rfl) (by kernel_rfl) (by kernel_rfl) (fun _ _ _ h => h) (Or.inl ⟨by rfl, ?_⟩) (by assumption) ?_
  rotate_left 1
  · intro v hSv
    clear hSv
    go_simp
    try with_reducible rfl
  try simp only [Act.put, List.setIfInBounds_toArray, List.set_cons_zero, List.set_cons_succ]
  refine wpAnyH_take (i := 2) (oi := { dst := some 55, op := .move (.tmp 11), type := _, pos := _, after := _, guard := _ }) (v := ?_) rfl (by kernel_rfl) (by kernel_rfl) (by kernel_rfl) (fun _ _ _ h => h) (Or.inl ⟨by rfl, ?_⟩) (by assumption) ?_
  rotate_left 1
  · intro v hSv
    clear hSv
    go_simp
    try with_reducible rfl
  try simp only [Act.put, List.setIfInBounds_toArray, List.set_cons_zero, List.set_cons_succ]
  refine wpAnyH_take (i := 3) (oi := { dst := some 56, op := .pick (.tmp 54) (.tmp 55) (.const (.bool false)), type := _, pos := _, after := _, guard := _ }) (v := ?_) rfl (by kernel_rfl) (by kernel_rfl) (by kernel_rfl) (fun _ _ _ h => h) (Or.inl ⟨by rfl, ?_⟩) (by assumption) ?_
  rotate_left 1
  · intro v hSv
    clear hSv
    go_simp
    try with_reducible rfl
  try simp only [Act.put, List.setIfInBounds_toArray, List.set_cons_zero, List.set_cons_succ]
  refine wpAnyH_take (i := 4) (oi := { dst := some 57, op := .move (.tmp 56), type := _, pos := _, after := _, guard := _ }) (v := ?_) rfl (by kernel_rfl) (by kernel_rfl) (by kernel_rfl) (fun _ _ _ h => h) (Or.inl ⟨by rfl, ?_⟩) (by assumption) ?_
  rotate_left 1
  · intro v hSv
    clear hSv
    go_simp
    try with_reducible rfl
  try simp only [Act.put, List.setIfInBounds_toArray, List.set_cons_zero, List.set_cons_succ]
  refine wpAnyH_take (i := 5) (oi := { dst := some 58, op := .load _ (.tmp 10), type := _, pos := _, after := _, guard := _ }) (v := ?_) rfl (by kernel_rfl) (by kernel_rfl) (by kernel_rfl) (fun _ _ _ h => h) (Or.inl ⟨by rfl, ?_⟩) (by assumption) ?_
  rotate_left 1
  · intro v hSv
    have hv1 := LE.out v hSv
    clear hSv
    go_simp
    try with_reducible rfl
  try simp only [Act.put, List.setIfInBounds_toArray, List.set_cons_zero, List.set_cons_succ]
  refine wpAnyH_take (i := 7) (oi := { dst := some 60, op := .move (.tmp 7), type := _, pos := _, after := _, guard := _ }) (v := ?_) rfl (by kernel_rfl) (by kernel_rfl) (by kernel_rfl) (fun _ _ _ h => h) (Or.inl ⟨by rfl, ?_⟩) (by assumption) ?_
  rotate_left 1
  · intro v hSv
    clear hSv
    go_simp
    try with_reducible rfl
  try simp only [Act.put, List.setIfInBounds_toArray, List.set_cons_zero, List.set_cons_succ]
  refine wpAnyH_take (i := 8) (oi := { dst := some 61, op := .move (.tmp 2), type := _, pos := _, after := _, guard := _ }) (v := ?_) rfl (by kernel_rfl) (by kernel_rfl) (by kernel_rfl) (fun _ _ _ h => h) (Or.inl ⟨by rfl, ?_⟩) (by assumption) ?_
  rotate_left 1
  · intro v hSv
    clear hSv
    go_simp
    try with_reducible rfl
  try simp only [Act.put, List.setIfInBounds_toArray, List.set_cons_zero, List.set_cons_succ]
  refine wpAnyH_take (i := 9) (oi := { dst := some 62, op := .move (.tmp 2), type := _, pos := _, after := _, guard := _ }) (v := ?_) rfl (by kernel_rfl) (by kernel_rfl) (by kernel_rfl) (fun _ _ _ h => h) (Or.inl ⟨by rfl, ?_⟩) (by assumption) ?_
  rotate_left 1
  · intro v hSv
    clear hSv
    go_simp
    try with_reducible rfl
  try simp only [Act.put, List.setIfInBounds_toArray, List.set_cons_zero, List.set_cons_succ]
  refine wpAnyH_take (i := 10) (oi := { dst := some 63, op := .binOp .add _ (.tmp 62) (.const (.int .i64 1)) _, type := _, pos := _, after := _, guard := _ }) (v := ?_) rfl (by kernel_rfl) (by kernel_rfl) (by kernel_rfl) (fun _ _ _ h => h) (Or.inl ⟨by rfl, ?_⟩) (by assumption) ?_
  rotate_left 1
  · intro v hSv
    clear hSv
    go_simp
    try with_reducible rfl
  try simp only [Act.put, List.setIfInBounds_toArray, List.set_cons_zero, List.set_cons_succ]
  refine wpAnyH_take (i := 11) (oi := { dst := some 64, op := .slice _ (.tmp 60) (some (.tmp 61)) (some (.tmp 63)) none, type := _, pos := _, after := _, guard := _ }) (v := ?_) rfl (by kernel_rfl) (by kernel_rfl) (by kernel_rfl) (fun _ _ _ h => h) (Or.inl ⟨by rfl, ?_⟩) (by assumption) ?_
  rotate_left 1
  · intro v hSv
    clear hSv
    go_simp
    try with_reducible rfl
  try simp only [Act.put, List.setIfInBounds_toArray, List.set_cons_zero, List.set_cons_succ]
  refine wpAnyH_ready (rs := [6]) (by kernel_rfl) (by simp) ?_
  refine AllReadyH.cons (o := { dst := some 59, op := .buildSlice _ _ _, type := _, pos := _, after := _, guard := _ }) rfl (fun K hK => ?_) AllReadyH.nil
  go_simp
  refine hK.out _ _ (made_bel (hb1) _) (fun hHeld => ?_)
  clear hK K
  try simp only [Act.put, List.setIfInBounds_toArray, List.set_cons_zero, List.set_cons_succ]
  refine wpAnyH_ready (rs := [12]) (by kernel_rfl) (by simp) ?_
  refine AllReadyH.cons (o := { dst := some 65, op := .call _, type := _, pos := _, after := _, guard := _ }) rfl (fun K hK => ?_) AllReadyH.nil
  go_simp
  refine (HSM.out y1 (hb1)).mono ?_
  rintro e y2 ⟨rfl, hb⟩
  have hb2 : Below Y.heap.size Y y2 := keeps (made_bel (hb1) _) hb
  clear hb
  go_wp2_with fail
  refine hK.out _ _ (hb2) (fun hHeld => ?_)
  clear hK K
  try simp only [Act.put, List.setIfInBounds_toArray, List.set_cons_zero, List.set_cons_succ]
  refine wpAnyH_take (i := 13) (oi := { dst := some 66, op := .pick (.tmp 57) (.tmp 65) (.const (.bool false)), type := _, pos := _, after := _, guard := _ }) (v := ?_) rfl (by kernel_rfl) (by kernel_rfl) (by kernel_rfl) (fun _ _ _ h => h) (Or.inl ⟨by rfl, ?_⟩) (by assumption) ?_
  rotate_left 1
  · intro v hSv
    clear hSv
    go_simp
    try with_reducible rfl
  try simp only [Act.put, List.setIfInBounds_toArray, List.set_cons_zero, List.set_cons_succ]
  refine wpAnyH_take (i := 14) (oi := { dst := some 67, op := .move (.tmp 66), type := _, pos := _, after := _, guard := _ }) (v := ?_) rfl (by kernel_rfl) (by kernel_rfl) (by kernel_rfl) (fun _ _ _ h => h) (Or.inl ⟨by rfl, ?_⟩) (by assumption) ?_
  rotate_left 1
  · intro v hSv
    clear hSv
    go_simp
    try with_reducible rfl
  try simp only [Act.put, List.setIfInBounds_toArray, List.set_cons_zero, List.set_cons_succ]
  refine wpAnyH_take (i := 15) (oi := { dst := some 68, op := .move (.tmp 8), type := _, pos := _, after := _, guard := _ }) (v := ?_) rfl (by kernel_rfl) (by kernel_rfl) (by kernel_rfl) (fun _ _ _ h => h) (Or.inl ⟨by rfl, ?_⟩) (by assumption) ?_
  rotate_left 1
  · intro v hSv
    clear hSv
    go_simp
    try with_reducible rfl
  try simp only [Act.put, List.setIfInBounds_toArray, List.set_cons_zero, List.set_cons_succ]
  refine wpAnyH_take (i := 16) (oi := { dst := some 69, op := .fieldAddr _ (.tmp 10) 0, type := _, pos := _, after := _, guard := _ }) (v := ?_) rfl (by kernel_rfl) (by kernel_rfl) (by kernel_rfl) (fun _ _ _ h => h) (Or.inl ⟨by rfl, ?_⟩) (by assumption) ?_
  rotate_left 1
  · intro v hSv
    clear hSv
    go_simp
    try with_reducible rfl
  try simp only [Act.put, List.setIfInBounds_toArray, List.set_cons_zero, List.set_cons_succ]
  refine wpAnyH_take (i := 17) (oi := { dst := some 70, op := .load _ (.tmp 69), type := _, pos := _, after := _, guard := _ }) (v := ?_) rfl (by kernel_rfl) (by kernel_rfl) (by kernel_rfl) (fun _ _ _ h => h) (Or.inl ⟨by rfl, ?_⟩) (by assumption) ?_
  rotate_left 1
  · intro v hSv
    have hv1 := LK.out v hSv
    clear hSv
    go_simp
    try with_reducible rfl
  try simp only [Act.put, List.setIfInBounds_toArray, List.set_cons_zero, List.set_cons_succ]
  refine wpAnyH_take (i := 19) (oi := { dst := some 72, op := .move (.tmp 2), type := _, pos := _, after := _, guard := _ }) (v := ?_) rfl (by kernel_rfl) (by kernel_rfl) (by kernel_rfl) (fun _ _ _ h => h) (Or.inl ⟨by rfl, ?_⟩) (by assumption) ?_
  rotate_left 1
  · intro v hSv
    clear hSv
    go_simp
    try with_reducible rfl
  try simp only [Act.put, List.setIfInBounds_toArray, List.set_cons_zero, List.set_cons_succ]
  refine wpAnyH_ready (rs := [18]) (by kernel_rfl) (by simp) ?_
  refine AllReadyH.cons (o := { dst := some 71, op := .call _, type := _, pos := _, after := _, guard := _ }) rfl (fun K hK => ?_) AllReadyH.nil
  go_simp
  refine (HRK.out y2 (hb2)).mono ?_
  rintro e y3 ⟨rfl, hb⟩
  have hb3 : Below Y.heap.size Y y3 := keeps (hb2) hb
  clear hb
  go_wp2_with fail
  refine hK.out _ _ (hb3) (fun hHeld => ?_)
  clear hK K
  try simp only [Act.put, List.setIfInBounds_toArray, List.set_cons_zero, List.set_cons_succ]
  refine wpAnyH_take (i := 20) (oi := { dst := some 73, op := .binOp .eql _ (.tmp 71) (.tmp 72) _, type := _, pos := _, after := _, guard := _ }) (v := ?_) rfl (by kernel_rfl) (by kernel_rfl) (by kernel_rfl) (fun _ _ _ h => h) (Or.inl ⟨by rfl, ?_⟩) (by assumption) ?_
  rotate_left 1
  · intro v hSv
    clear hSv
    go_simp
    try with_reducible rfl
  try simp only [Act.put, List.setIfInBounds_toArray, List.set_cons_zero, List.set_cons_succ]
  refine wpAnyH_take (i := 21) (oi := { dst := some 74, op := .pick (.tmp 67) (.tmp 73) (.const (.bool false)), type := _, pos := _, after := _, guard := _ }) (v := ?_) rfl (by kernel_rfl) (by kernel_rfl) (by kernel_rfl) (fun _ _ _ h => h) (Or.inl ⟨by rfl, ?_⟩) (by assumption) ?_
  rotate_left 1
  · intro v hSv
    clear hSv
    go_simp
    try with_reducible rfl
  try simp only [Act.put, List.setIfInBounds_toArray, List.set_cons_zero, List.set_cons_succ]
  refine wpAnyH_take (i := 22) (oi := { dst := some 6, op := .assign (.tmp 74), type := _, pos := _, after := _, guard := _ }) (v := ?_) rfl (by kernel_rfl) (by kernel_rfl) (by kernel_rfl) (fun _ _ _ h => h) (Or.inl ⟨by rfl, ?_⟩) (by assumption) ?_
  rotate_left 1
  · intro v hSv
    clear hSv
    go_simp
    try with_reducible rfl
  try simp only [Act.put, List.setIfInBounds_toArray, List.set_cons_zero, List.set_cons_succ]
  refine wpAnyH_done (by kernel_rfl) ?_ _
  have HKF := Lib.hid (hb3)
  clear sl qn bs wm
  go_wp2_with fail
  go_ret
  exact ⟨rfl, HB0.out.trans ((HFY.out.bel.trans (HKF.out.mono HFY.out.bel.size)).mono HB0.out.size)⟩
set_option maxHeartbeats 16000000 in
set_option maxRecDepth 100000 in
/-- Other bits, or entries that are not few: alive. -/
theorem nth_out {M : World → Int → Tv → Prop} (nd : NdV M) (pv : PtV M) (wk : WkV M) (n : Int) (A : Option Addr) (c : Nat) (es : List En) (i : Int) (W : World) (hA : EA W A es) (hvx : Vars W) (h : (n < 0 ∨ 256 < n) ∨ fewK (es.map En.ent) = false) :
    Calls Tryd.prog 7 #[.int .i64 n, .slice A es.length c, .int .i64 i] W (Aye W) := by
  obtain ⟨X, hX⟩ : ∃ X, X = W := ⟨_, rfl⟩
  have hb0 : Below W.heap.size W X := by rw [hX]; exact Below.refl _ _
  have HX := Lib.hid hX
  have HB0 := Lib.hid hb0
  have HVX := Lib.hid (hvx.below hb0)
  have HT := Lib.hid (tree_out n A c es X (hA.below hb0) h)
  have HAL := Lib.hid (fun w h => alive11_c nd pv wk w h)
  clear hA hvx h hX hb0
  go_enter Tryd.func7, Tryd.ntmps7
  go_wp2_with fail
  rw [← HX.out]
  clear HX
  refine HT.out.mono ?_
  rintro _ w2 ⟨rfl, hB⟩
  have HB := Lib.hid hB
  clear hB HT
  go_wp2_with fail
  refine (HAL.out w2 (HVX.out.below HB.out)).mono ?_
  rintro _ w3 ⟨rfl, hB⟩
  have HB3 := Lib.hid (HB.out.trans (hB.mono HB.out.size))
  clear hB HAL
  go_wp2_with fail
  go_ret
  exact ⟨rfl, HB0.out.trans (HB3.out.mono HB0.out.size)⟩
end Go.Proofs.YtjnhhcbplhmemaaDoor

/- The walk of WalkFrom over contracts. -/
namespace Go.Proofs.YtjnhhcbplhmemaaDoor
open Go.RowKit

set_option maxHeartbeats 16000000 in
set_option maxRecDepth 100000 in
theorem from_in {M : World → Int → Tv → Prop} (nd : NdV M) (pv : PtV M) (wk : WkV M) (n : Int) (A : Option Addr) (c : Nat) (es : List En) (k : List UInt8) (hk : k.length = 32) (d : Int) (hd0 : -9223372036854775808 ≤ d) (hd1 : d ≤ 9223372036854775807) (W : World) (hA : EA W A es) (hl : es.length ≤ 12) (hvl : ∀ e ∈ es, e.v.length ≤ 1000) (hf : fewK (es.map En.ent) = true) (hvx : Vars W) (h0 : 0 ≤ n) (h1 : n ≤ 256) :
    Calls Tryd.prog 5 #[.int .i64 n, .slice A es.length c, .agg (k.map bv ++ [Value.int .i64 d]).toArray] W (Aye W) := by
  obtain ⟨X, hX⟩ : ∃ X, X = W.alloc (.cells (k.map bv ++ [Value.int .i64 d]).toArray 41) := ⟨_, rfl⟩
  have hb0 : Below W.heap.size W X := by rw [hX]; exact (Below.refl _ _).alloc (Nat.le_refl _) _
  have hg0 : X.heap[W.heap.size]? = some (.cells (k.map bv ++ [Value.int .i64 d]).toArray 41 (0, 0)) := by rw [hX]; exact heap_alloc_new W _
  have HG0 := Lib.hid hg0
  have HK := Lib.hid hk
  clear hg0
  have HX := Lib.hid hX
  have HB0 := Lib.hid hb0
  have HT := Lib.hid (tree_in nd n A c es X (hA.below hb0) hl hvl hf (hvx.below hb0) h0 h1)
  have HVE : Hid (∀ e ∈ ofE es, e.v.length ≤ 1000) := fun e he => hvl e (ofE_mem he)
  have HLE : Hid ((ofE es).length ≤ 12) := Nat.le_trans (ofE_len es) hl
  have HAS : Hid (Asc ((ofE es).map En.ent)) := by
    show _
    rw [ofE_ent]
    exact ofK_asc fun x hx => by
      obtain ⟨e, he, rfl⟩ := List.mem_map.1 hx
      obtain ⟨i, hi⟩ := List.getElem?_of_mem he
      exact (hA i e hi).1.key
  clear hA hvl hf hvx hX hb0
  go_enter Tryd.func5, Tryd.ntmps5
  go_wp2_with fail
  rw [← HX.out]
  clear HX
  refine HT.out.mono ?_
  rintro _ w2 ⟨A2, c2, T, rfl, hc2, hI, hF⟩
  have HI := Lib.hid hI
  have HF2 := Lib.hid hF
  obtain ⟨O, hO⟩ : ∃ O, O = ofE es := ⟨_, rfl⟩
  rw [← hO] at HI HF2 HVE HLE HAS hc2 ⊢
  obtain ⟨pT, hpT⟩ := val_ptr nd hF.ms
  have HPT := Lib.hid hpT
  rw [hpT]
  have HLK : Hid ((O.map En.ent).length ≤ 100) := by show _ ≤ _; rw [List.length_map]; have := HLE.out; omega
  have HAL : Hid (∀ w, Vars w → Calls Tryd.prog 10 #[] w fun e w' => e = .returned (.bool true) ∧ Below w.heap.size w w') := fun w h => alive11_c nd pv wk w h
  have lk := kb_key HF2.out.bel HG0.out HK.out
  obtain ⟨r, hr⟩ : ∃ r, r = rankK (O.map En.ent) k := ⟨_, rfl⟩
  have hrl : r ≤ O.length := by
    have := rankK_le (O.map En.ent) k
    rw [← hr, List.length_map] at this
    exact this
  have HRR := Lib.hid (rank11_c A2 c2 O k w2 HF2.out.ea (by have := HLE.out; omega) HK.out)
  rw [← hr] at HRR
  have HFR : Hid (∀ y, Below w2.heap.size w2 y → Calls Tryd.prog 16 #[.pointer pT, .agg (bA k), .int .i64 d] y fun e w' => ∃ (A : Option Addr) (c : Nat) (es : List En), e = .returned (.slice A es.length c) ∧ Hid (EA w' A es ∧ es.map En.ent = ((O.map En.ent).drop r).take d.toNat ∧ es.length ≤ 12 ∧ ∀ e ∈ es, e.v.length ≤ 1000) ∧ Below y.heap.size y w') := fun y hy => by
    have := wk.from_ y n T (O.map En.ent) k d (nd.below HF2.out.ms hy) HI.out HAS.out HLK.out HK.out hd0 hd1
    rw [HPT.out, ← hr] at this
    refine this.mono ?_
    rintro _ w' ⟨A, c, es, rfl, h1, h2, h3⟩
    refine ⟨A, c, es, rfl, ⟨h1, h2, ?_, fun e he => ?_⟩, h3⟩
    · have := congrArg List.length h2
      rw [List.length_map, List.length_take, List.length_drop, List.length_map] at this
      have := HLE.out
      omega
    · have h4 : e.ent ∈ ((O.map En.ent).drop r).take d.toNat := by rw [← h2]; exact List.mem_map.2 ⟨e, he, rfl⟩
      obtain ⟨z, hz, hze⟩ := List.mem_map.1 (List.mem_of_mem_drop (List.mem_of_mem_take h4))
      have h5 : z.v = e.v := congrArg Ent.v hze
      rw [← h5]
      exact HVE.out z hz
  obtain ⟨L1, hL1⟩ : ∃ L1, L1 = O.length - r := ⟨_, rfl⟩
  obtain ⟨B1, hB1⟩ : ∃ B1, B1 = cutA A2 c2 r := ⟨_, rfl⟩
  obtain ⟨c1, hc1⟩ : ∃ c1, c1 = c2 - r := ⟨_, rfl⟩
  have sl : ∀ w, (Instr.sliceAt 22 (.slice A2 O.length c2) (some (.int .i64 (r : Int))) none none).run Tryd.prog w = .ok (.slice B1 L1 c1) w := fun w => by rw [hB1, hL1, hc1]; exact cutE_from A2 O.length c2 r hrl w
  have HE1 : Hid (∀ y, Below w2.heap.size w2 y → EA y B1 (O.drop r)) := fun y hy => by rw [hB1]; exact (HF2.out.ea.below hy).cut hc2
  have HL1 : Hid ((O.drop r).length = L1 ∧ L1 ≤ 12 ∧ L1 ≤ c1) := by
    have := HLE.out
    refine ⟨by rw [List.length_drop, hL1], by omega, by omega⟩
  have HDR : Hid ((O.map En.ent).drop r = (O.drop r).map En.ent) := List.map_drop.symm
  have HHD : Hid (-9223372036854775808 ≤ d ∧ d ≤ 9223372036854775807) := ⟨hd0, hd1⟩
  have HVD : Hid (∀ e ∈ O.drop r, e.v.length ≤ 1000) := fun e he => HVE.out e (List.mem_of_mem_drop he)
  have HKM : Hid (∀ y, Below w2.heap.size w2 y → ldA 31 y (.pointer (some ⟨W.heap.size, 0, none⟩)) = .ok (.value (.agg (bA k))) y ∧ y.cell? ⟨W.heap.size, 32, none⟩ = some (.int .i64 d)) := fun y hy => by
    have h1 : Below X.heap.size X y := HF2.out.bel.trans (hy.mono HF2.out.bel.size)
    exact ⟨kb_key h1 HG0.out HK.out, kb_bits h1 HG0.out HK.out⟩
  have r0 : r ≤ 12 := by have := HLE.out; omega
  clear hc2 hI hF HT hO hpT hr hrl hL1 hB1 hc1 hd0 hd1
  go_wp2_with fail
  refine HRR.out.mono ?_
  rintro _ w3 ⟨rfl, hB⟩
  have HB3 := Lib.hid hB
  obtain ⟨_, lm⟩ := HKM.out w3 hB
  have HV3 := Lib.hid (HAL.out w3 (HF2.out.vars.below hB))
  have HHL := Lib.hid (HL1.out.2.1)
  have l12 := HL1.out.2.1
  clear hB HRR lk
  by_cases hdl : d < (L1 : Int)
  · have e1 : decide (d < (L1 : Int)) = true := decide_eq_true hdl
    obtain ⟨t, ht⟩ : ∃ t, t = d.toNat := ⟨_, rfl⟩
    have f2 : ∀ (ts : Array TypeId) (u : TypeId) (W : World), (Builtin.max_ ts u #[.int .i64 d, .int .i64 0]).run Tryd.prog W = .ok (.int .i64 (t : Int)) W := fun ts u W => by
      rw [run_max_int2]
      congr 2
      omega
    have htl : t ≤ L1 := by omega
    obtain ⟨B2, hB2⟩ : ∃ B2, B2 = cutA B1 c1 0 := ⟨_, rfl⟩
    have sl2 : ∀ w, (Instr.sliceAt 22 (.slice B1 L1 c1) none (some (.int .i64 (t : Int))) none).run Tryd.prog w = .ok (.slice B2 t c1) w := fun w => by rw [hB2]; exact cutE_to B1 L1 c1 t (by have := HL1.out.2.2; omega) w
    have HE2 : Hid (∀ y, Below w2.heap.size w2 y → EA y B2 ((O.drop r).take t)) := fun y hy => by
      have := ((HE1.out y hy).cut (c := c1) (n := 0) (by rw [HL1.out.1]; exact HL1.out.2.2)).take t
      rwa [← hB2, List.drop_zero] at this
    have HT2 : Hid (((O.drop r).take t).length = t ∧ t ≤ 12 ∧ t = d.toNat) := ⟨by rw [List.length_take, HL1.out.1]; omega, by omega, ht⟩
    clear hdl ht htl hB2
    go_wp2_with fail
    refine HV3.out.mono ?_
    rintro _ w4 ⟨rfl, hB⟩
    have HB4 := Lib.hid (HB3.out.trans (hB.mono HB3.out.size))
    obtain ⟨lk, lm4⟩ := HKM.out w4 HB4.out
    have HR4 := Lib.hid (HFR.out w4 HB4.out)
    clear hB HFR HV3 sl sl2 f2 lm
    go_wp2_with fail
    refine HR4.out.mono ?_
    rintro _ w5 ⟨A5, c5, e5, rfl, h5, hB⟩
    have HB5 := Lib.hid (HB4.out.trans (hB.mono HB4.out.size))
    have hs := same7_c A5 B2 c5 c1 e5 ((O.drop r).take t) w5 h5.out.1 (HE2.out w5 HB5.out) (by have := h5.out.2.2.1; omega) (by rw [HT2.out.1]; have := HT2.out.2.1; omega) (fun e he => by have := h5.out.2.2.2 e he; omega) (fun e he => by have := HVD.out e (List.mem_of_mem_take he); omega)
    have heq : e5.map En.ent = ((O.drop r).take t).map En.ent := by rw [h5.out.2.1, HDR.out, List.map_take, HT2.out.2.2]
    rw [decide_eq_true heq, HT2.out.1] at hs
    have HSM := Lib.hid hs
    clear hB hs heq h5 HR4 lk lm4
    go_wp2_with fail
    refine HSM.out.mono ?_
    rintro _ w6 ⟨rfl, hB⟩
    have HB6 := Lib.hid (HF2.out.bel.trans ((HB5.out.trans (hB.mono HB5.out.size)).mono HF2.out.bel.size))
    clear hB HSM
    go_wp2_with fail
    go_ret
    exact ⟨rfl, HB0.out.trans (HB6.out.mono HB0.out.size)⟩
  · have e1 : decide (d < (L1 : Int)) = false := decide_eq_false hdl
    have HT2 : Hid (L1 ≤ d.toNat) := by show _ ≤ _; omega
    clear hdl
    go_wp2_with fail
    refine HV3.out.mono ?_
    rintro _ w4 ⟨rfl, hB⟩
    have HB4 := Lib.hid (HB3.out.trans (hB.mono HB3.out.size))
    obtain ⟨lk, lm4⟩ := HKM.out w4 HB4.out
    have HR4 := Lib.hid (HFR.out w4 HB4.out)
    clear hB HFR HV3 sl lm
    go_wp2_with fail
    refine HR4.out.mono ?_
    rintro _ w5 ⟨A5, c5, e5, rfl, h5, hB⟩
    have HB5 := Lib.hid (HB4.out.trans (hB.mono HB4.out.size))
    have hs := same7_c A5 B1 c5 c1 e5 (O.drop r) w5 h5.out.1 (HE1.out w5 HB5.out) (by have := h5.out.2.2.1; omega) (by rw [HL1.out.1]; have := HL1.out.2.1; omega) (fun e he => by have := h5.out.2.2.2 e he; omega) (fun e he => by have := HVD.out e he; omega)
    have heq : e5.map En.ent = (O.drop r).map En.ent := by rw [h5.out.2.1, HDR.out, List.take_of_length_le (by rw [List.length_map, HL1.out.1]; exact HT2.out)]
    rw [decide_eq_true heq, HL1.out.1] at hs
    have HSM := Lib.hid hs
    clear hB hs heq h5 HR4 lk lm4
    go_wp2_with fail
    refine HSM.out.mono ?_
    rintro _ w6 ⟨rfl, hB⟩
    have HB6 := Lib.hid (HF2.out.bel.trans ((HB5.out.trans (hB.mono HB5.out.size)).mono HF2.out.bel.size))
    clear hB HSM
    go_wp2_with fail
    go_ret
    exact ⟨rfl, HB0.out.trans (HB6.out.mono HB0.out.size)⟩
set_option maxHeartbeats 16000000 in
set_option maxRecDepth 100000 in
/-- Other bits, or entries that are not few: alive. -/
theorem from_out {M : World → Int → Tv → Prop} (nd : NdV M) (pv : PtV M) (wk : WkV M) (n : Int) (A : Option Addr) (c : Nat) (es : List En) (k : List UInt8) (d : Int) (W : World) (hA : EA W A es) (hvx : Vars W) (h : (n < 0 ∨ 256 < n) ∨ fewK (es.map En.ent) = false) :
    Calls Tryd.prog 5 #[.int .i64 n, .slice A es.length c, .agg (k.map bv ++ [Value.int .i64 d]).toArray] W (Aye W) := by
  obtain ⟨X, hX⟩ : ∃ X, X = W.alloc (.cells (k.map bv ++ [Value.int .i64 d]).toArray 41) := ⟨_, rfl⟩
  have hb0 : Below W.heap.size W X := by rw [hX]; exact (Below.refl _ _).alloc (Nat.le_refl _) _
  have HX := Lib.hid hX
  have HB0 := Lib.hid hb0
  have HVX := Lib.hid (hvx.below hb0)
  have HT := Lib.hid (tree_out n A c es X (hA.below hb0) h)
  have HAL := Lib.hid (fun w h => alive11_c nd pv wk w h)
  clear hA hvx h hX hb0
  go_enter Tryd.func5, Tryd.ntmps5
  go_wp2_with fail
  rw [← HX.out]
  clear HX
  refine HT.out.mono ?_
  rintro _ w2 ⟨rfl, hB⟩
  have HB := Lib.hid hB
  clear hB HT
  go_wp2_with fail
  refine (HAL.out w2 (HVX.out.below HB.out)).mono ?_
  rintro _ w3 ⟨rfl, hB⟩
  have HB3 := Lib.hid (HB.out.trans (hB.mono HB.out.size))
  clear hB HAL
  go_wp2_with fail
  go_ret
  exact ⟨rfl, HB0.out.trans (HB3.out.mono HB0.out.size)⟩
end Go.Proofs.YtjnhhcbplhmemaaDoor

/- The walk of WalkDepths over contracts. -/
namespace Go.Proofs.YtjnhhcbplhmemaaDoor
open Go.RowKit

set_option maxHeartbeats 16000000 in
set_option maxRecDepth 100000 in
theorem depths_in {M : World → Int → Tv → Prop} (nd : NdV M) (pv : PtV M) (wk : WkV M) (n : Int) (A : Option Addr) (c : Nat) (es : List En) (fv : FnV M) (W : World) (hA : EA W A es) (hl : es.length ≤ 12) (hvl : ∀ e ∈ es, e.v.length ≤ 1000) (hf : fewK (es.map En.ent) = true) (hvx : Vars W) (h0 : 0 ≤ n) (h1 : n ≤ 256) :
    Calls Tryd.prog 8 #[.int .i64 n, .slice A es.length c] W (Aye W) := by
  obtain ⟨X, hX⟩ : ∃ X, X = W := ⟨_, rfl⟩
  have hb0 : Below W.heap.size W X := by rw [hX]; exact Below.refl _ _
  have HX := Lib.hid hX
  have HB0 := Lib.hid hb0
  have HT := Lib.hid (tree_in nd n A c es X (hA.below hb0) hl hvl hf (hvx.below hb0) h0 h1)
  have HVE : Hid (∀ e ∈ ofE es, e.v.length ≤ 1000) := fun e he => hvl e (ofE_mem he)
  have HLE : Hid ((ofE es).length ≤ 12) := Nat.le_trans (ofE_len es) hl
  have HAS : Hid (Asc ((ofE es).map En.ent)) := by
    show _
    rw [ofE_ent]
    exact ofK_asc fun x hx => by
      obtain ⟨e, he, rfl⟩ := List.mem_map.1 hx
      obtain ⟨i, hi⟩ := List.getElem?_of_mem he
      exact (hA i e hi).1.key
  clear hA hvl hf hvx hX hb0
  go_enter Tryd.func8, Tryd.ntmps8
  go_wp2_with fail
  rw [← HX.out]
  clear HX
  refine HT.out.mono ?_
  rintro _ w2 ⟨A2, c2, T, rfl, hc2, hI, hF⟩
  have HI := Lib.hid hI
  have HF2 := Lib.hid hF
  obtain ⟨O, hO⟩ : ∃ O, O = ofE es := ⟨_, rfl⟩
  rw [← hO] at HI HF2 HVE HLE HAS hc2 ⊢
  obtain ⟨pT, hpT⟩ := val_ptr nd hF.ms
  have HPT := Lib.hid hpT
  rw [hpT]
  have HLK : Hid ((O.map En.ent).length ≤ 100) := by show _ ≤ _; rw [List.length_map]; have := HLE.out; omega
  have HAL : Hid (∀ w, Vars w → Calls Tryd.prog 10 #[] w fun e w' => e = .returned (.bool true) ∧ Below w.heap.size w w') := fun w h => alive11_c nd pv wk w h
  have HDP := Lib.hid (wk.depths w2 n T (O.map En.ent) HF2.out.ms HI.out HAS.out HLK.out)
  rw [hpT, List.length_map] at HDP
  have oL := HLE.out
  clear hc2 hI hF HT hO hpT
  go_wp2_with fail
  refine HDP.out.mono ?_
  rintro _ w3 ⟨A3, c3, rfl, hIS, hB⟩
  have HF3 := Lib.hid (HF2.out.below nd hB)
  have HIS := Lib.hid hIS
  have dn : ((O.length : Int) != (O.length : Int)) = false := by simp
  clear hIS hB HDP HF2
  go_wp2_with fail
  go_loopg [32] O.length (fun gg i wr => ∃ m : Nat, i = .int .i64 (m : Int) ∧ m ≤ O.length ∧ O.length - m = gg ∧ Below w3.heap.size w3 wr)
  case atStart => exact ⟨0, rfl, by omega, by omega, Below.refl _ _⟩
  case round =>
    obtain ⟨m, rfl, hm, rfl, hB⟩ := hrel
    have HB := Lib.hid hB
    clear hB
    by_cases hlt : m < O.length
    · have hd : decide (m < O.length) = true := decide_eq_true hlt
      obtain ⟨e, he⟩ : ∃ e, O[m]? = some e := ⟨_, List.getElem?_eq_getElem hlt⟩
      obtain ⟨hok, g, o, rfl, hr⟩ := (HF3.out.ea.below HB.out) m e he
      have HKL := Lib.hid hok.key
      have p0 : (0 : Int) ≤ (m : Int) := by omega
      have p1 : (m : Int) < (O.length : Int) := by omega
      have le := range_ent hr hok.key
      have st := stE_new (w := wr) (e := e) (z := ⟨z26, none, [], 0⟩) hok.key rfl
      obtain ⟨V, hV⟩ : ∃ V, V = wr.alloc (.cells (enC e).toArray 34) := ⟨_, rfl⟩
      have hbV : Below wr.heap.size wr V := by rw [hV]; exact (Below.refl _ _).alloc (Nat.le_refl _) _
      have hr0 : V.rangeAt wr.heap.size 0 (enC e) := by rw [hV]; exact ent_made wr e _
      have lk := range_key hr0 hok.key
      rw [hV] at lk
      have HBV := Lib.hid (HB.out.trans (hbV.mono HB.out.size))
      have HRV := Lib.hid hr0
      have HV := Lib.hid hV
      obtain ⟨N, hN⟩ : ∃ N, N = depK (O.map En.ent) e.k := ⟨_, rfl⟩
      have hmem : e.ent ∈ O.map En.ent := List.mem_map.2 ⟨e, List.mem_of_getElem? he, rfl⟩
      have hdep : T.dep e.k 0 = N := (dep_is HI.out hmem).trans hN.symm
      have HLO := Lib.hid (fv.locate V n (O.map En.ent) T e.k (nd.below HF3.out.ms HBV.out) HI.out hok.key)
      obtain ⟨pf, hpf⟩ := val_ptr nd (ms_fin nd e.k HF3.out.ms)
      rw [HPT.out, hdep, hpf] at HLO
      have HN6 : Hid (N ≤ 256) := by show _ ≤ _; rw [hN]; exact depK_256 HI.out.sep.len hok.key
      obtain ⟨g1, o1, hA3, hc⟩ := HIS.out m N (by rw [List.getElem?_map, List.getElem?_map, he, hN]; rfl)
      have HA3 := Lib.hid hA3
      have HCC := Lib.hid hc
      have HND := Lib.hid hN
      clear he hok hr hV hbV hr0 hmem hdep hpf hN hA3 hc
      go_wp2_with fail
      rw [← HV.out]
      clear HV le st lk
      refine HLO.out.mono ?_
      rintro _ w5 ⟨rfl, hB⟩
      have HB5 := Lib.hid (HBV.out.trans (hB.mono HBV.out.size))
      have HR5 := Lib.hid (range_below HRV.out hB)
      have ha3 := HA3.out
      subst ha3
      have l1 : ∀ q : Later w5, ldA 31 q.w (.pointer (some ⟨wr.heap.size, 0, none⟩)) = .ok (.value (.agg (bA e.k))) q.w := fun q => range_key (range_below HR5.out q.h) HKL.out
      have l2 : ∀ q : Later w5, q.w.cell? ⟨g1, o1 + m, none⟩ = some (.int .i64 (N : Int)) := fun q => by
        have h1 := HB5.out.trans (q.h.mono HB5.out.size)
        rw [h1.cell (lt_of_cell HCC.out)]
        exact HCC.out
      have HDE : Hid (∀ q : Later w5, Calls Tryd.prog 21 #[.slice (some ⟨g, o, none⟩) O.length c2, .agg (bA e.k)] q.w fun x w'' => x = .returned (.int .i64 (N : Int)) ∧ ∃ y : Later w5, w'' = y.w) := fun q => by
        have := depth11_c (some ⟨g, o, none⟩) c2 O e.k q.w ((HF3.out.ea.below HB5.out).below q.h) (by have := HLE.out; omega) HKL.out
        rw [← HND.out] at this
        exact Later.call this
      have qn : ((N : Int) != (N : Int)) = false := by simp
      clear hB HLO
      go_wp2_with fail
      refine wp_region_later (by kernel_rfl) (by kernel_rfl) ?_
      repeat (go_big_quiet_step ((go_at_call 21; exact HDE.out _)))
      refine wpQuiet_nil ?_
      rintro _ ⟨x, rfl⟩
      have HB6 := Lib.hid (HB5.out.trans (x.h.mono HB5.out.size))
      clear l1 l2 HDE qn
      go_wp2_with fail
      go_roundg (O.length - (m + 1))
      case measure => omega
      case rel => exact ⟨m + 1, by go_num, by omega, rfl, HB6.out⟩
    · obtain rfl : m = O.length := by omega
      have hd : decide (O.length < O.length) = false := decide_eq_false (by omega)
      have HV := Lib.hid (HAL.out wr (HF3.out.vars.below HB.out))
      go_wp2_with fail
      refine HV.out.mono ?_
      rintro _ w9 ⟨rfl, hB⟩
      have HB9 := Lib.hid (HF3.out.bel.trans ((HB.out.trans (hB.mono HB.out.size)).mono HF3.out.bel.size))
      clear hB HV
      go_wp2_with fail
      go_ret
      exact ⟨rfl, HB0.out.trans (HB9.out.mono HB0.out.size)⟩
set_option maxHeartbeats 16000000 in
set_option maxRecDepth 100000 in
/-- Other bits, or entries that are not few: alive. -/
theorem depths_out {M : World → Int → Tv → Prop} (nd : NdV M) (pv : PtV M) (wk : WkV M) (n : Int) (A : Option Addr) (c : Nat) (es : List En)  (W : World) (hA : EA W A es) (hvx : Vars W) (h : (n < 0 ∨ 256 < n) ∨ fewK (es.map En.ent) = false) :
    Calls Tryd.prog 8 #[.int .i64 n, .slice A es.length c] W (Aye W) := by
  obtain ⟨X, hX⟩ : ∃ X, X = W := ⟨_, rfl⟩
  have hb0 : Below W.heap.size W X := by rw [hX]; exact Below.refl _ _
  have HX := Lib.hid hX
  have HB0 := Lib.hid hb0
  have HVX := Lib.hid (hvx.below hb0)
  have HT := Lib.hid (tree_out n A c es X (hA.below hb0) h)
  have HAL := Lib.hid (fun w h => alive11_c nd pv wk w h)
  clear hA hvx h hX hb0
  go_enter Tryd.func8, Tryd.ntmps8
  go_wp2_with fail
  rw [← HX.out]
  clear HX
  refine HT.out.mono ?_
  rintro _ w2 ⟨rfl, hB⟩
  have HB := Lib.hid hB
  clear hB HT
  go_wp2_with fail
  refine (HAL.out w2 (HVX.out.below HB.out)).mono ?_
  rintro _ w3 ⟨rfl, hB⟩
  have HB3 := Lib.hid (HB.out.trans (hB.mono HB.out.size))
  clear hB HAL
  go_wp2_with fail
  go_ret
  exact ⟨rfl, HB0.out.trans (HB3.out.mono HB0.out.size)⟩
end Go.Proofs.YtjnhhcbplhmemaaDoor

/- The walk of WalkStops over contracts. -/
namespace Go.Proofs.YtjnhhcbplhmemaaDoor
open Go.RowKit
attribute [local go_sem] Oper.semAt_some

set_option maxHeartbeats 16000000 in
set_option maxRecDepth 100000 in
theorem stops_in {M : World → Int → Tv → Prop} (nd : NdV M) (pv : PtV M) (wk : WkV M) (n : Int) (A : Option Addr) (c : Nat) (es : List En) (q : Nat) (hq : q ≤ 255) (W : World) (hA : EA W A es) (hl : es.length ≤ 12) (hvl : ∀ e ∈ es, e.v.length ≤ 1000) (hf : fewK (es.map En.ent) = true) (hvx : Vars W) (h0 : 0 ≤ n) (h1 : n ≤ 256) :
    Calls Tryd.prog 4 #[.int .i64 n, .slice A es.length c, .int .u8 (q : Int)] W (Aye W) := by
  obtain ⟨X, hX⟩ : ∃ X, X = (W.alloc (.cells #[.int .u8 (q : Int)] 5)).alloc (.cells #[.bool false] 4) := ⟨_, rfl⟩
  have hb0 : Below W.heap.size W X := by rw [hX]; exact ((Below.refl _ _).alloc (Nat.le_refl _) _).alloc (by simp) _
  have hxm : X.heap[W.heap.size]? = some (.cells #[.int .u8 (q : Int)] 5 (0, 0)) := by rw [hX]; exact heap_alloc2_old W _ _
  have hxr : X.heap[W.heap.size + 1]? = some (.cells #[.bool false] 4 (0, 0)) := by rw [hX]; exact heap_alloc2_new W _ _
  have HXM := Lib.hid hxm
  have HXR := Lib.hid hxr
  clear hxm hxr
  have HX := Lib.hid hX
  have HB0 := Lib.hid hb0
  have HT := Lib.hid (tree_in nd n A c es X (hA.below hb0) hl hvl hf (hvx.below hb0) h0 h1)
  have HVE : Hid (∀ e ∈ ofE es, e.v.length ≤ 1000) := fun e he => hvl e (ofE_mem he)
  have HLE : Hid ((ofE es).length ≤ 12) := Nat.le_trans (ofE_len es) hl
  have HAS : Hid (Asc ((ofE es).map En.ent)) := by
    show _
    rw [ofE_ent]
    exact ofK_asc fun x hx => by
      obtain ⟨e, he, rfl⟩ := List.mem_map.1 hx
      obtain ⟨i, hi⟩ := List.getElem?_of_mem he
      exact (hA i e hi).1.key
  clear hA hvl hf hvx hX hb0
  refine (callsIn_wide (n := 10)).1 ?_
  refine callsIn_of_wp_marks Tryd.func4 rfl trivial ?_ rfl
  simp only [Tryd.ntmps4, List.size_toArray, List.length_cons, List.length_nil, Nat.reduceAdd, Nat.reduceSub, Array.replicate_succ, Array.replicate_zero, List.push_toArray, List.append_toArray, List.nil_append, List.cons_append]
  refine wpIn_wide.2 ?_
  go_wp2_with fail
  rw [← HX.out]
  clear HX
  refine HT.out.mono ?_
  rintro _ w2 ⟨A2, c2, T, rfl, hc2, hI, hF⟩
  have HI := Lib.hid hI
  have HF2 := Lib.hid hF
  obtain ⟨O, hO⟩ : ∃ O, O = ofE es := ⟨_, rfl⟩
  rw [← hO] at HI HF2 HVE HLE HAS hc2 ⊢
  obtain ⟨pT, hpT⟩ := val_ptr nd hF.ms
  have HPT := Lib.hid hpT
  rw [hpT]
  have HLK : Hid ((O.map En.ent).length ≤ 100) := by show _ ≤ _; rw [List.length_map]; have := HLE.out; omega
  have HAL : Hid (∀ w, Vars w → Calls Tryd.prog 10 #[] w fun e w' => e = .returned (.bool true) ∧ Below w.heap.size w w') := fun w h => alive11_c nd pv wk w h
  obtain ⟨V, hV⟩ : ∃ V, V = (w2.alloc (.cells #[.slice A2 O.length c2] 22)).alloc (.cells #[.int .i64 0] 3) := ⟨_, rfl⟩
  have hbV : Below w2.heap.size w2 V := by rw [hV]; exact ((Below.refl _ _).alloc (Nat.le_refl _) _).alloc (by simp) _
  have hvm : V.heap[w2.heap.size]? = some (.cells #[.slice A2 O.length c2] 22 (0, 0)) := by rw [hV]; exact heap_alloc2_old w2 _ _
  have hvs : V.heap[w2.heap.size + 1]? = some (.cells #[.int .i64 0] 3 (0, 0)) := by rw [hV]; exact heap_alloc2_new w2 _ _
  have hvz : V.heap.size = w2.heap.size + 2 := by rw [hV]; simp
  have HAW := Lib.hid (wk.all w2 V n T (O.map En.ent) HF2.out.ms hbV HI.out HAS.out HLK.out)
  rw [hpT] at HAW
  have HV := Lib.hid hV
  have HBV := Lib.hid hbV
  have HVM := Lib.hid hvm
  have HVS := Lib.hid hvs
  have HVZ := Lib.hid hvz
  have HQ := Lib.hid hq
  have oL := HLE.out
  have HC2 := Lib.hid hc2
  clear hI hF HT hO hpT hV hbV hvm hvs hvz hq hc2
  go_wp2_with fail
  rw [← HV.out]
  clear HV
  refine HAW.out.mono ?_
  rintro _ W0 ⟨gf, lb, O0, rfl, hB, hO0, hent, hseq⟩
  have HB6 := Lib.hid hB
  have HO0 := Lib.hid hO0
  have HENT := Lib.hid hent
  have HSEQ := Lib.hid (hseq W0 (Keep.refl _ _))
  clear hB hO0 hent hseq HAW
  go_wp2_with fail
  have h06 := HB6.out.size
  have hvz := HVZ.out
  refine (wpIn_wide (n := 10)).1 ?_
  refine wpIn_rangeO (gf := gf) (lb := lb) rfl HENT.out HSEQ.out (fun i hi _ => ⟨by omega, fun h => by have := (HO0.out i h).2; omega⟩) (fun x args X h => by obtain ⟨_, A, c, rfl, _⟩ := h; rfl)
    (fun pre Ob X => X.heap[w2.heap.size + 1]? = some (.cells #[.int .i64 (pre.length : Int)] 3 (0, 0)) ∧ Keep (fun i => i = w2.heap.size + 1) W0 X ∧ pre.length ≤ q)
    (fun c pre Ob X => c = .exit 0 ∧ X.heap[w2.heap.size + 1]? = some (.cells #[.int .i64 ((q : Int) + 1)] 3 (0, 0)) ∧ Keep (fun i => i = w2.heap.size + 1) W0 X ∧ q + 1 ≤ O.length)
    (fun s Ob X Y Ob' ⟨h1, h2, h3⟩ hO hs hk _ => ⟨hk.heap h1 fun h => by have := hO _ h; omega, h2.step hk fun i hi => .inr (by have := hO _ hi; omega), h3⟩)
    (fun s Ob X l o o' ⟨h1, h2, h3⟩ hl _ _ _ => ⟨(World.putObj_heap_other (by omega)).trans h1, h2.step (keep_putObj (M := fun i => i = l) X l o' rfl) fun i hi => .inr (by have e : i = l := hi; omega), h3⟩)
    (fun c s Ob X Y Ob' ⟨h0, h1, h2, h3⟩ hO hs hk _ => ⟨h0, hk.heap h1 fun h => by have := hO _ h; omega, h2.step hk fun i hi => .inr (by have := hO _ hi; omega), h3⟩)
    (fun c s Ob X l o o' ⟨h0, h1, h2, h3⟩ hl _ _ _ => ⟨h0, (World.putObj_heap_other (by omega)).trans h1, h2.step (keep_putObj (M := fun i => i = l) X l o' rfl) fun i hi => .inr (by have e : i = l := hi; omega), h3⟩)
    (fun X hX => ⟨by rw [hX.block _ (by omega), HB6.out.block _ (by omega)]; exact HVS.out, Keep.of_below hX, Nat.zero_le _⟩) ?round ?done ?stop
  case round =>
    rintro l pre x Ob args X3 rfl ⟨r, hr⟩ ⟨h1, h2, h3⟩ hO hp ⟨hxk, A, c, rfl, _, _⟩
    have hD3 := lt_of_heap hr
    obtain ⟨p, hpd⟩ : ∃ p, p = pre.length := ⟨_, rfl⟩
    have hget := pre_get hp
    rw [← hpd] at hget h1 h3
    have st := stK11 (w := X3) hxk
    obtain ⟨Y3, hY3⟩ : ∃ Y3, Y3 = X3.alloc (.cells (bA x.k) 31) := ⟨_, rfl⟩
    have hb3 : Below X3.heap.size X3 Y3 := by rw [hY3]; exact (Below.refl _ _).alloc (Nat.le_refl _) _
    have hk3 : Y3.heap[X3.heap.size]? = some (.cells (bA x.k) 31 (0, 0)) := by rw [hY3]; exact heap_alloc_new X3 _
    have HO := Lib.hid hO
    have HG := Lib.hid hget
    have HPD := Lib.hid hpd
    have HXK := Lib.hid hxk
    have HB3 := Lib.hid hb3
    have HK3 := Lib.hid hk3
    have HY3 := Lib.hid hY3
    have HI3 : Hid (X3.heap[w2.heap.size + 1]? = some (.cells #[.int .i64 (p : Int)] 3 (0, 0)) ∧ Keep (fun i => i = w2.heap.size + 1) W0 X3 ∧ p ≤ q) := ⟨h1, h2, h3⟩
    have HD3 : Hid (W0.heap.size + 1 < X3.heap.size) := hD3
    clear hr h1 h2 h3 hO hp hxk hpd hget hY3 hb3 hk3 hD3 h06 hvz
    gi_wp2
    rw [← HY3.out]
    clear HY3 st
    refine ⟨keeps2_of (keepsO_below HB3.out) _, Keep.of_below HB3.out, ⟨by rw [HB3.out.block _ (lt_of_heap HI3.out.1), ← HPD.out]; exact HI3.out.1, HI3.out.2.1.trans (Keep.of_below HB3.out), by rw [← HPD.out]; exact HI3.out.2.2⟩, fun V3 _ hkV hIV => ?_⟩
    rw [← HPD.out] at hIV
    obtain ⟨g1, g2, g3⟩ := hIV
    have h06 := HB6.out.size
    have hvz := HVZ.out
    have hd3 := HD3.out
    have hkb : V3.heap[X3.heap.size]? = some (.cells (bA x.k) 31 (0, 0)) := hkV.heap HK3.out (by omega)
    have hbl : Below w2.heap.size w2 V3 := (HBV.out.trans (HB6.out.mono (by omega))).trans (g2.below (by omega) fun i hi => by have e : i = w2.heap.size + 1 := hi; omega)
    have hsm : V3.heap[w2.heap.size]? = some (.cells #[.slice A2 O.length c2] 22 (0, 0)) := g2.heap (by rw [HB6.out.block _ (by omega)]; exact HVM.out) (by omega)
    have hmq : V3.heap[W.heap.size]? = some (.cells #[.int .u8 (q : Int)] 5 (0, 0)) := by
      have h1 := HF2.out.bel.trans (hbl.mono HF2.out.bel.size)
      rw [h1.block _ (lt_of_heap HXM.out)]; exact HXM.out
    obtain ⟨e, he, hee⟩ : ∃ e, O[p]? = some e ∧ e.ent = x := by
      have := HG.out
      rw [List.getElem?_map] at this
      obtain ⟨e, h1, h2⟩ := Option.map_eq_some_iff.1 this
      exact ⟨e, h1, h2⟩
    obtain ⟨hok, g, o, hA2, hre⟩ := (HF2.out.ea.below hbl) p e he
    have hpl : p < O.length := (List.getElem?_eq_some_iff.1 he).1
    subst hA2
    have l1 : ∀ y : Later V3, y.w.cell? ⟨w2.heap.size + 1, 0, none⟩ = some (.int .i64 (p : Int)) := fun y => by rw [cell_of_cells (y.block g1)]; rfl
    have l2 : ∀ y : Later V3, y.w.cell? ⟨w2.heap.size, 0, none⟩ = some (.slice (some ⟨g, o, none⟩) O.length c2) := fun y => by rw [cell_of_cells (y.block hsm)]; rfl
    have l3 : ∀ y : Later V3, ldA 31 y.w (.pointer (some ⟨X3.heap.size, 0, none⟩)) = .ok (.value (.agg (bA x.k))) y.w := fun y => ldA_row (t' := 31) (fr := (0, 0)) (y.block hkb) Tryd.underlying31 (by rw [bA_size, HXK.out]; exact infoKey)
    have l4 : ∀ y : Later V3, ldA 31 y.w (.pointer (some ⟨g, o + p * 33, none⟩)) = .ok (.value (.agg (bA e.k))) y.w := fun y => range_key (range_below hre y.h) hok.key
    have hke : x.k = e.k := by rw [← hee]; rfl
    have ne : ∀ u v w, eqA .neq 31 u v w (.agg (bA x.k)) (.agg (bA e.k)) = .ok (.value (.bool false)) w := fun u v w => by rw [neKey8 _ _ HXK.out hok.key, decide_eq_true hke]; rfl
    have d1 : decide ((O.length : Int) ≤ (p : Int)) = false := decide_eq_false (by omega)
    have d2 : decide (O.length ≤ p) = false := decide_eq_false (by omega)
    have p0 : (0 : Int) ≤ (p : Int) := by omega
    have p1 : (p : Int) < (O.length : Int) := by omega
    have pq : p ≤ q := g3
    have hq5 := HQ.out
    have HG1 := Lib.hid g1
    have HG2 := Lib.hid g2
    have HMQ := Lib.hid hmq
    have HPL : Hid (p < O.length) := hpl
    clear g1 g2 g3 hkb hbl hsm hmq he hee hok hre hke hkV hpl h06 hvz hd3
    gi_wp2
    refine round_later (fun ⟨_, _, h⟩ => h) (by rfl) (by kernel_rfl) (by kernel_rfl) ?_
    repeat (go_big_quiet_step (fail))
    refine wpQuiet_nil ?_
    rintro _ ⟨U, rfl⟩
    have hu1 := U.block HG1.out
    have c1 : U.w.cell? ⟨w2.heap.size + 1, 0, none⟩ = some (.int .i64 (p : Int)) := by rw [cell_of_cells hu1]; rfl
    have z1 : U.w.frozen? ⟨w2.heap.size + 1, 0, none⟩ = false := frozen_of_row U.w _ _ _ _ hu1
    have hum := U.block HMQ.out
    have hWl : W.heap.size < w2.heap.size := by
      have h1 := lt_of_heap HXM.out
      have h2 := HF2.out.bel.size
      omega
    have c2 : (U.w.setCell ⟨w2.heap.size + 1, 0, none⟩ (.int .i64 ((p : Int) + 1))).cell? ⟨W.heap.size, 0, none⟩ = some (.int .u8 (q : Int)) := by
      rw [cell_of_cells (set_keep hum (by omega))]; rfl
    have HFIN : Hid (Keeps2 W0.heap.size V3 (U.w.setCell ⟨w2.heap.size + 1, 0, none⟩ (.int .i64 ((p : Int) + 1))) ∧ Keep (fun i => (w2.heap.size ≤ i ∧ ¬ O0 i) ∧ ¬ Ob i) V3 (U.w.setCell ⟨w2.heap.size + 1, 0, none⟩ (.int .i64 ((p : Int) + 1))) ∧
        (U.w.setCell ⟨w2.heap.size + 1, 0, none⟩ (.int .i64 ((p : Int) + 1))).heap[w2.heap.size + 1]? = some (.cells #[.int .i64 ((p : Int) + 1)] 3 (0, 0)) ∧ Keep (fun i => i = w2.heap.size + 1) W0 (U.w.setCell ⟨w2.heap.size + 1, 0, none⟩ (.int .i64 ((p : Int) + 1)))) := by
      have hk1 : Keep (fun i => i = w2.heap.size + 1) U.w (U.w.setCell ⟨w2.heap.size + 1, 0, none⟩ (.int .i64 ((p : Int) + 1))) := Keep.cell U.w ⟨w2.heap.size + 1, 0, none⟩ _
      have h06 := HB6.out.size
      have hvz := HVZ.out
      refine ⟨keeps2_of ((keepsO_below U.h).trans (KeepsOthers.setCell _ _ _)) _, (Keep.of_below U.h).trans (hk1.mono fun i hi => ?_), set_row hu1, (HG2.out.trans (Keep.of_below U.h)).trans hk1⟩
      have e : i = w2.heap.size + 1 := hi
      exact ⟨⟨by omega, fun h => by have := (HO0.out i h).1; omega⟩, fun h => by have := (HO.out i h).1; omega⟩
    clear l1 l2 l3 l4 ne d1 d2 hu1 hum hWl
    by_cases hqp : q < p + 1
    · have e1 : decide (q < p + 1) = true := decide_eq_true hqp
      have e2 : decide ((q : Int) < (p : Int) + 1) = true := decide_eq_true (by omega)
      have HPQ : Hid (p = q) := by show p = q; omega
      clear hqp
      gi_wp2
      obtain ⟨f1, f2, f3, f4⟩ := HFIN.out
      exact ⟨f1, f2, rfl, by rw [← HPQ.out]; exact f3, f4, by have := HPL.out; have := HPQ.out; omega⟩
    · have e1 : decide (q < p + 1) = false := decide_eq_false hqp
      have e2 : decide ((q : Int) < (p : Int) + 1) = false := decide_eq_false (by omega)
      have HPQ : Hid (p + 1 ≤ q) := by show p + 1 ≤ q; omega
      clear hqp
      gi_wp2
      obtain ⟨f1, f2, f3, f4⟩ := HFIN.out
      exact ⟨f1, f2, by rw [List.length_append, ← HPD.out]; exact f3, f4, by rw [List.length_append, ← HPD.out]; exact HPQ.out⟩
  case done =>
    rintro D Ob X rfl ⟨h1, h2, h3⟩ hd
    rw [List.length_map] at h1 h3
    obtain ⟨N, hN⟩ : ∃ N : Int, N = (O.length : Int) := ⟨_, rfl⟩
    rw [← hN] at h1
    have h06 := HB6.out.size
    have hvz := HVZ.out
    have hbl : Below w2.heap.size w2 X := (HBV.out.trans (HB6.out.mono (by omega))).trans (h2.below (by omega) fun i hi => by have e : i = w2.heap.size + 1 := hi; omega)
    have hsm : X.heap[w2.heap.size]? = some (.cells #[.slice A2 O.length c2] 22 (0, 0)) := h2.heap (by rw [HB6.out.block _ (by omega)]; exact HVM.out) (by omega)
    have hb1 := HF2.out.bel.trans (hbl.mono HF2.out.bel.size)
    have hmq : X.heap[W.heap.size]? = some (.cells #[.int .u8 (q : Int)] 5 (0, 0)) := by rw [hb1.block _ (lt_of_heap HXM.out)]; exact HXM.out
    have hmr : X.heap[W.heap.size + 1]? = some (.cells #[.bool false] 4 (0, 0)) := by rw [hb1.block _ (lt_of_heap HXR.out)]; exact HXR.out
    have HALX := Lib.hid (HAL.out X (HF2.out.vars.below hbl))
    have HBL := Lib.hid hbl
    have HSM := Lib.hid hsm
    have HMQ := Lib.hid hmq
    have HMR := Lib.hid hmr
    have HSN := Lib.hid h1
    have HDX := Lib.hid hd
    have fm : ∀ (ts : Array TypeId) (t : TypeId) (W : World), (Builtin.min_ ts t #[.int .i64 (O.length : Int), .int .i64 ((q : Int) + 1)]).run Tryd.prog W = .ok (.int .i64 N) W := fun ts t W => by
      rw [run_min_int2]
      congr 2
      omega
    have hq5 := HQ.out
    have qn : (N == N) = true := beq_self_eq_true _
    clear h1 h2 h3 hd hbl hsm hb1 hmq hmr hN h06 hvz
    go_wp2_with fail
    refine HALX.out.mono ?_
    rintro _ w7 ⟨rfl, hB⟩
    have h7s : w7.heap[w2.heap.size + 1]? = some (.cells #[.int .i64 N] 3 (0, 0)) := by rw [hB.block _ (lt_of_heap HSN.out)]; exact HSN.out
    have h7m : w7.heap[w2.heap.size]? = some (.cells #[.slice A2 O.length c2] 22 (0, 0)) := by rw [hB.block _ (lt_of_heap HSM.out)]; exact HSM.out
    have h7q : w7.heap[W.heap.size]? = some (.cells #[.int .u8 (q : Int)] 5 (0, 0)) := by rw [hB.block _ (lt_of_heap HMQ.out)]; exact HMQ.out
    have h7r : w7.heap[W.heap.size + 1]? = some (.cells #[.bool false] 4 (0, 0)) := by rw [hB.block _ (lt_of_heap HMR.out)]; exact HMR.out
    have h7d : w7.heap[W0.heap.size]? = some (.deferred (some [])) := by rw [hB.block _ (lt_of_heap HDX.out)]; exact HDX.out
    have l1 : w7.cell? ⟨w2.heap.size + 1, 0, none⟩ = some (.int .i64 N) := by rw [cell_of_cells h7s]; rfl
    have l2 : w7.cell? ⟨w2.heap.size, 0, none⟩ = some (.slice A2 O.length c2) := by rw [cell_of_cells h7m]; rfl
    have l3 : w7.cell? ⟨W.heap.size, 0, none⟩ = some (.int .u8 (q : Int)) := by rw [cell_of_cells h7q]; rfl
    have l4 : w7.cell? ⟨W.heap.size + 1, 0, none⟩ = some (.bool false) := by rw [cell_of_cells h7r]; rfl
    have l5 : w7.frozen? ⟨W.heap.size + 1, 0, none⟩ = false := frozen_of_row w7 _ _ _ _ h7r
    have HFIN : Hid ((w7.setCell ⟨W.heap.size + 1, 0, none⟩ (.bool true)).heap[W0.heap.size]? = some (.deferred (some [])) ∧ ((w7.setCell ⟨W.heap.size + 1, 0, none⟩ (.bool true)).putObj W0.heap.size (.deferred none)).heap[W.heap.size + 1]? = some (.cells #[.bool true] 4 (0, 0)) ∧ Below W.heap.size W ((w7.setCell ⟨W.heap.size + 1, 0, none⟩ (.bool true)).putObj W0.heap.size (.deferred none))) := by
      have h06 := HB6.out.size
      have hvz := HVZ.out
      have hr := lt_of_heap HXR.out
      have hr2 := HF2.out.bel.size
      have hW0 := HB0.out.size
      have hb7 : Below W.heap.size W w7 := (HB0.out.trans (HF2.out.bel.mono HB0.out.size)).trans ((HBL.out.trans (hB.mono HBL.out.size)).mono (by omega))
      refine ⟨set_keep h7d (by omega), (World.putObj_heap_other (by omega)).trans (set_row h7r), ?_⟩
      have hb8 : Below W.heap.size W (w7.setCell ⟨W.heap.size + 1, 0, none⟩ (.bool true)) := hb7.setCell (by show W.heap.size ≤ W.heap.size + 1; omega) _
      exact hb8.trans ((keep_putObj (M := fun i => i = W0.heap.size) _ _ _ rfl).below hb8.size fun i hi => by have e : i = W0.heap.size := hi; omega)
    clear h7s h7m h7q h7r h7d hB HALX
    go_wp2_with fail
    refine ⟨by simp, .inl ⟨_, _, rfl, run_takeDeferred HFIN.out.1, ?_⟩⟩
    exact ⟨_, resB rfl HFIN.out.2.1 _ rfl, rfl, HFIN.out.2.2⟩
  case stop =>
    rintro D cc pre Ob X rfl _ ⟨rfl, h1, h2, h3⟩ hd
    refine wpIn_wide.2 ?_
    obtain ⟨N, hN⟩ : ∃ N : Int, N = (q : Int) + 1 := ⟨_, rfl⟩
    rw [← hN] at h1
    have h06 := HB6.out.size
    have hvz := HVZ.out
    have hbl : Below w2.heap.size w2 X := (HBV.out.trans (HB6.out.mono (by omega))).trans (h2.below (by omega) fun i hi => by have e : i = w2.heap.size + 1 := hi; omega)
    have hsm : X.heap[w2.heap.size]? = some (.cells #[.slice A2 O.length c2] 22 (0, 0)) := h2.heap (by rw [HB6.out.block _ (by omega)]; exact HVM.out) (by omega)
    have hb1 := HF2.out.bel.trans (hbl.mono HF2.out.bel.size)
    have hmq : X.heap[W.heap.size]? = some (.cells #[.int .u8 (q : Int)] 5 (0, 0)) := by rw [hb1.block _ (lt_of_heap HXM.out)]; exact HXM.out
    have hmr : X.heap[W.heap.size + 1]? = some (.cells #[.bool false] 4 (0, 0)) := by rw [hb1.block _ (lt_of_heap HXR.out)]; exact HXR.out
    have HALX := Lib.hid (HAL.out X (HF2.out.vars.below hbl))
    have HBL := Lib.hid hbl
    have HSM := Lib.hid hsm
    have HMQ := Lib.hid hmq
    have HMR := Lib.hid hmr
    have HSN := Lib.hid h1
    have HDX := Lib.hid hd
    have fm : ∀ (ts : Array TypeId) (t : TypeId) (W : World), (Builtin.min_ ts t #[.int .i64 (O.length : Int), .int .i64 ((q : Int) + 1)]).run Tryd.prog W = .ok (.int .i64 N) W := fun ts t W => by
      rw [run_min_int2]
      congr 2
      omega
    have hq5 := HQ.out
    have qn : (N == N) = true := beq_self_eq_true _
    clear h1 h2 h3 hd hbl hsm hb1 hmq hmr hN h06 hvz
    go_wp2_with fail
    refine HALX.out.mono ?_
    rintro _ w7 ⟨rfl, hB⟩
    have h7s : w7.heap[w2.heap.size + 1]? = some (.cells #[.int .i64 N] 3 (0, 0)) := by rw [hB.block _ (lt_of_heap HSN.out)]; exact HSN.out
    have h7m : w7.heap[w2.heap.size]? = some (.cells #[.slice A2 O.length c2] 22 (0, 0)) := by rw [hB.block _ (lt_of_heap HSM.out)]; exact HSM.out
    have h7q : w7.heap[W.heap.size]? = some (.cells #[.int .u8 (q : Int)] 5 (0, 0)) := by rw [hB.block _ (lt_of_heap HMQ.out)]; exact HMQ.out
    have h7r : w7.heap[W.heap.size + 1]? = some (.cells #[.bool false] 4 (0, 0)) := by rw [hB.block _ (lt_of_heap HMR.out)]; exact HMR.out
    have h7d : w7.heap[W0.heap.size]? = some (.deferred (some [])) := by rw [hB.block _ (lt_of_heap HDX.out)]; exact HDX.out
    have l1 : w7.cell? ⟨w2.heap.size + 1, 0, none⟩ = some (.int .i64 N) := by rw [cell_of_cells h7s]; rfl
    have l2 : w7.cell? ⟨w2.heap.size, 0, none⟩ = some (.slice A2 O.length c2) := by rw [cell_of_cells h7m]; rfl
    have l3 : w7.cell? ⟨W.heap.size, 0, none⟩ = some (.int .u8 (q : Int)) := by rw [cell_of_cells h7q]; rfl
    have l4 : w7.cell? ⟨W.heap.size + 1, 0, none⟩ = some (.bool false) := by rw [cell_of_cells h7r]; rfl
    have l5 : w7.frozen? ⟨W.heap.size + 1, 0, none⟩ = false := frozen_of_row w7 _ _ _ _ h7r
    have HFIN : Hid ((w7.setCell ⟨W.heap.size + 1, 0, none⟩ (.bool true)).heap[W0.heap.size]? = some (.deferred (some [])) ∧ ((w7.setCell ⟨W.heap.size + 1, 0, none⟩ (.bool true)).putObj W0.heap.size (.deferred none)).heap[W.heap.size + 1]? = some (.cells #[.bool true] 4 (0, 0)) ∧ Below W.heap.size W ((w7.setCell ⟨W.heap.size + 1, 0, none⟩ (.bool true)).putObj W0.heap.size (.deferred none))) := by
      have h06 := HB6.out.size
      have hvz := HVZ.out
      have hr := lt_of_heap HXR.out
      have hr2 := HF2.out.bel.size
      have hW0 := HB0.out.size
      have hb7 : Below W.heap.size W w7 := (HB0.out.trans (HF2.out.bel.mono HB0.out.size)).trans ((HBL.out.trans (hB.mono HBL.out.size)).mono (by omega))
      refine ⟨set_keep h7d (by omega), (World.putObj_heap_other (by omega)).trans (set_row h7r), ?_⟩
      have hb8 : Below W.heap.size W (w7.setCell ⟨W.heap.size + 1, 0, none⟩ (.bool true)) := hb7.setCell (by show W.heap.size ≤ W.heap.size + 1; omega) _
      exact hb8.trans ((keep_putObj (M := fun i => i = W0.heap.size) _ _ _ rfl).below hb8.size fun i hi => by have e : i = W0.heap.size := hi; omega)
    clear h7s h7m h7q h7r h7d hB HALX
    go_wp2_with fail
    refine ⟨by simp, .inl ⟨_, _, rfl, run_takeDeferred HFIN.out.1, ?_⟩⟩
    exact ⟨_, resB rfl HFIN.out.2.1 _ rfl, rfl, HFIN.out.2.2⟩
set_option maxHeartbeats 16000000 in
set_option maxRecDepth 100000 in
/-- Other bits, or entries that are not few: alive. -/
theorem stops_out {M : World → Int → Tv → Prop} (nd : NdV M) (pv : PtV M) (wk : WkV M) (n : Int) (A : Option Addr) (c : Nat) (es : List En) (q : Nat) (W : World) (hA : EA W A es) (hvx : Vars W) (h : (n < 0 ∨ 256 < n) ∨ fewK (es.map En.ent) = false) :
    Calls Tryd.prog 4 #[.int .i64 n, .slice A es.length c, .int .u8 (q : Int)] W (Aye W) := by
  obtain ⟨X, hX⟩ : ∃ X, X = (W.alloc (.cells #[.int .u8 (q : Int)] 5)).alloc (.cells #[.bool false] 4) := ⟨_, rfl⟩
  have hb0 : Below W.heap.size W X := by rw [hX]; exact ((Below.refl _ _).alloc (Nat.le_refl _) _).alloc (by simp) _
  have hxm : X.heap[W.heap.size]? = some (.cells #[.int .u8 (q : Int)] 5 (0, 0)) := by rw [hX]; exact heap_alloc2_old W _ _
  have hxr : X.heap[W.heap.size + 1]? = some (.cells #[.bool false] 4 (0, 0)) := by rw [hX]; exact heap_alloc2_new W _ _
  have HXM := Lib.hid hxm
  have HXR := Lib.hid hxr
  clear hxm hxr
  have HX := Lib.hid hX
  have HB0 := Lib.hid hb0
  have HVX := Lib.hid (hvx.below hb0)
  have HT := Lib.hid (tree_out n A c es X (hA.below hb0) h)
  have HAL := Lib.hid (fun w h => alive11_c nd pv wk w h)
  clear hA hvx h hX hb0
  go_enter Tryd.func4, Tryd.ntmps4
  go_wp2_with fail
  rw [← HX.out]
  clear HX
  refine HT.out.mono ?_
  rintro _ w2 ⟨rfl, hB⟩
  obtain ⟨V, hV⟩ : ∃ V, V = w2.alloc (.cells #[.slice none 0 0] 22) := ⟨_, rfl⟩
  have hbV : Below w2.heap.size w2 V := by rw [hV]; exact (Below.refl _ _).alloc (Nat.le_refl _) _
  have HV := Lib.hid hV
  have HB := Lib.hid (hB.trans (hbV.mono hB.size))
  clear hB HT hV hbV
  go_wp2_with fail
  rw [← HV.out]
  clear HV
  refine (HAL.out V (HVX.out.below HB.out)).mono ?_
  rintro _ w3 ⟨rfl, hB⟩
  have HB3 := Lib.hid (HB.out.trans (hB.mono HB.out.size))
  have h3r : w3.heap[W.heap.size + 1]? = some (.cells #[.bool false] 4 (0, 0)) := by rw [HB3.out.block _ (lt_of_heap HXR.out)]; exact HXR.out
  have l4 : w3.cell? ⟨W.heap.size + 1, 0, none⟩ = some (.bool false) := by rw [cell_of_cells h3r]; rfl
  have l5 : w3.frozen? ⟨W.heap.size + 1, 0, none⟩ = false := frozen_of_row w3 _ _ _ _ h3r
  have HFIN : Hid ((w3.setCell ⟨W.heap.size + 1, 0, none⟩ (.bool true)).heap[W.heap.size + 1]? = some (.cells #[.bool true] 4 (0, 0)) ∧ Below W.heap.size W (w3.setCell ⟨W.heap.size + 1, 0, none⟩ (.bool true))) :=
    ⟨set_row h3r, (HB0.out.trans (HB3.out.mono HB0.out.size)).setCell (by show W.heap.size ≤ W.heap.size + 1; omega) _⟩
  clear hB HAL h3r
  go_wp2_with fail
  exact bodyPost_ret (v := .bool true) (resB rfl HFIN.out.1 _ rfl) rfl ⟨rfl, HFIN.out.2⟩
end Go.Proofs.YtjnhhcbplhmemaaDoor

/- The walk of WalkLists over contracts. -/
namespace Go.Proofs.YtjnhhcbplhmemaaDoor
open Go.RowKit
attribute [local go_sem] Oper.semAt_some

set_option maxHeartbeats 16000000 in
set_option maxRecDepth 100000 in
theorem lists_in {M : World → Int → Tv → Prop} (nd : NdV M) (pv : PtV M) (wk : WkV M) (n : Int) (A : Option Addr) (c : Nat) (es : List En)  (W : World) (hA : EA W A es) (hl : es.length ≤ 12) (hvl : ∀ e ∈ es, e.v.length ≤ 1000) (hf : fewK (es.map En.ent) = true) (hvx : Vars W) (h0 : 0 ≤ n) (h1 : n ≤ 256) :
    Calls Tryd.prog 3 #[.int .i64 n, .slice A es.length c] W (Aye W) := by
  obtain ⟨X, hX⟩ : ∃ X, X = W.alloc (.cells #[.bool false] 4) := ⟨_, rfl⟩
  have hb0 : Below W.heap.size W X := by rw [hX]; exact (Below.refl _ _).alloc (Nat.le_refl _) _
  have hxr : X.heap[W.heap.size]? = some (.cells #[.bool false] 4 (0, 0)) := by rw [hX]; exact heap_alloc_new W _
  have HXR := Lib.hid hxr
  clear hxr
  have HX := Lib.hid hX
  have HB0 := Lib.hid hb0
  have HT := Lib.hid (tree_in nd n A c es X (hA.below hb0) hl hvl hf (hvx.below hb0) h0 h1)
  have HVE : Hid (∀ e ∈ ofE es, e.v.length ≤ 1000) := fun e he => hvl e (ofE_mem he)
  have HLE : Hid ((ofE es).length ≤ 12) := Nat.le_trans (ofE_len es) hl
  have HAS : Hid (Asc ((ofE es).map En.ent)) := by
    show _
    rw [ofE_ent]
    exact ofK_asc fun x hx => by
      obtain ⟨e, he, rfl⟩ := List.mem_map.1 hx
      obtain ⟨i, hi⟩ := List.getElem?_of_mem he
      exact (hA i e hi).1.key
  clear hA hvl hf hvx hX hb0
  refine (callsIn_wide (n := 10)).1 ?_
  refine callsIn_of_wp_marks Tryd.func3 rfl trivial ?_ rfl
  simp only [Tryd.ntmps3, List.size_toArray, List.length_cons, List.length_nil, Nat.reduceAdd, Nat.reduceSub, Array.replicate_succ, Array.replicate_zero, List.push_toArray, List.append_toArray, List.nil_append, List.cons_append]
  refine wpIn_wide.2 ?_
  go_wp2_with fail
  rw [← HX.out]
  clear HX
  refine HT.out.mono ?_
  rintro _ w2 ⟨A2, c2, T, rfl, hc2, hI, hF⟩
  have HI := Lib.hid hI
  have HF2 := Lib.hid hF
  obtain ⟨O, hO⟩ : ∃ O, O = ofE es := ⟨_, rfl⟩
  rw [← hO] at HI HF2 HVE HLE HAS hc2 ⊢
  obtain ⟨pT, hpT⟩ := val_ptr nd hF.ms
  have HPT := Lib.hid hpT
  rw [hpT]
  have HLK : Hid ((O.map En.ent).length ≤ 100) := by show _ ≤ _; rw [List.length_map]; have := HLE.out; omega
  have HAL : Hid (∀ w, Vars w → Calls Tryd.prog 10 #[] w fun e w' => e = .returned (.bool true) ∧ Below w.heap.size w w') := fun w h => alive11_c nd pv wk w h
  obtain ⟨V, hV⟩ : ∃ V, V = w2.alloc (.cells #[.slice A2 O.length c2] 22) := ⟨_, rfl⟩
  have hbV : Below w2.heap.size w2 V := by rw [hV]; exact (Below.refl _ _).alloc (Nat.le_refl _) _
  have hvm : V.heap[w2.heap.size]? = some (.cells #[.slice A2 O.length c2] 22 (0, 0)) := by rw [hV]; exact heap_alloc_new w2 _
  have hvz : V.heap.size = w2.heap.size + 1 := by rw [hV]; simp
  have HAW := Lib.hid (wk.all w2 V n T (O.map En.ent) HF2.out.ms hbV HI.out HAS.out HLK.out)
  rw [hpT] at HAW
  have HV := Lib.hid hV
  have HBV := Lib.hid hbV
  have HVM := Lib.hid hvm
  have HVZ := Lib.hid hvz
  have oL := HLE.out
  have HC2 := Lib.hid hc2
  clear hI hF HT hO hpT hV hbV hvm hvz hc2
  go_wp2_with fail
  rw [← HV.out]
  clear HV
  refine HAW.out.mono ?_
  rintro _ W0 ⟨gf, lb, O0, rfl, hB, hO0, hent, hseq⟩
  have HB6 := Lib.hid hB
  have HO0 := Lib.hid hO0
  have HENT := Lib.hid hent
  have HSQ := Lib.hid hseq
  clear hB hO0 hent hseq HAW
  go_wp2_with fail
  refine wp_loop_rounds 3 ?_
  rw [rounds_succ]
  have KU1 : Hid (Keep (fun i => w2.heap.size ≤ i ∧ ¬ O0 i) W0 W0) := Keep.refl _ _
  have BW0 : Hid (Below w2.heap.size w2 W0) := HBV.out.trans (HB6.out.mono HBV.out.size)
  have BU1 : Hid (Below w2.heap.size w2 W0) := BW0.out
  have ZU1 : Hid (W0.heap.size ≤ W0.heap.size) := Nat.le_refl _
  have MU1 : Hid (W0.heap[w2.heap.size]? = some (.cells #[.slice A2 O.length c2] 22 (0, 0))) := by show _ = _; rw [HB6.out.block _ (lt_of_heap HVM.out)]; exact HVM.out
  have MW0 : Hid (w2.heap.size < W0.heap.size) := lt_of_heap MU1.out
  obtain ⟨L1, hL⟩ : ∃ L1, L1 = W0.alloc (.cells #[.int .i64 0] 3) := ⟨_, rfl⟩
  have hbL : Below W0.heap.size W0 L1 := by rw [hL]; exact (Below.refl _ _).alloc (Nat.le_refl _) _
  have hs0 : L1.heap[W0.heap.size]? = some (.cells #[.int .i64 0] 3 (0, 0)) := by rw [hL]; exact heap_alloc_new W0 _
  have hz : L1.heap.size = W0.heap.size + 1 := by rw [hL]; simp
  have HL1 := Lib.hid hL
  have HSEQ1 := Lib.hid (HSQ.out L1 (KU1.out.trans (Keep.of_below hbL)))
  have HBL1 := Lib.hid hbL
  have HS1 := Lib.hid hs0
  have HZ1 := Lib.hid hz
  clear hL hbL hs0 hz
  go_wp2_with fail
  rw [← HL1.out]
  have h06 := ZU1.out
  have hz := HZ1.out
  have h2w := BW0.out.size
  refine (wpIn_wide (n := 10)).1 ?_
  refine wpIn_rangeO (gf := gf) (lb := lb) rfl HENT.out HSEQ1.out (fun i hi _ => ⟨by omega, fun h => by have := (HO0.out i h).2; omega⟩) (fun x args X h => by obtain ⟨_, A, c, rfl, _⟩ := h; rfl)
    (fun pre Ob X => X.heap[W0.heap.size]? = some (.cells #[.int .i64 (pre.length : Int)] 3 (0, 0)) ∧ Keep (fun i => i = W0.heap.size) L1 X) (fun _ _ _ _ => False)
    (fun s Ob X Y Ob' ⟨h1, h2⟩ hO hs hk _ => ⟨hk.heap h1 fun h => by have := hO _ h; omega, h2.step hk fun i hi => .inr (by have := hO _ hi; omega)⟩)
    (fun s Ob X l o o' ⟨h1, h2⟩ hl _ _ _ => ⟨(World.putObj_heap_other (by omega)).trans h1, h2.step (keep_putObj (M := fun i => i = l) X l o' rfl) fun i hi => .inr (by have e : i = l := hi; omega)⟩)
    (fun _ _ _ _ _ _ h => h.elim) (fun _ _ _ _ _ _ _ h => h.elim)
    (fun X hX => ⟨by rw [hX.block _ (by omega)]; exact HS1.out, Keep.of_below hX⟩) ?round ?done ?stop
  case stop =>
    rintro D cc pre Ob X _ _ h _
    exact h.elim
  case round =>
    rintro l pre x Ob args X3 rfl ⟨r, hr⟩ ⟨h1, h2⟩ hO hp ⟨hxk, A, c, rfl, hba, hac⟩
    have hD3 := lt_of_heap hr
    obtain ⟨p, hpd⟩ : ∃ p, p = pre.length := ⟨_, rfl⟩
    have hget := pre_get hp
    rw [← hpd] at hget h1
    have st := stK11 (w := X3) hxk
    obtain ⟨Y3, hY3⟩ : ∃ Y3, Y3 = X3.alloc (.cells (bA x.k) 31) := ⟨_, rfl⟩
    have hb3 : Below X3.heap.size X3 Y3 := by rw [hY3]; exact (Below.refl _ _).alloc (Nat.le_refl _) _
    have hk3 : Y3.heap[X3.heap.size]? = some (.cells (bA x.k) 31 (0, 0)) := by rw [hY3]; exact heap_alloc_new X3 _
    have hry : Y3.heap[L1.heap.size + 1]? = some (.loop r) := by rw [hb3.block _ hD3]; exact hr
    have HRY := Lib.hid hry
    have HBA3 := Lib.hid (hba.below hb3)
    have HAC := Lib.hid hac
    have HO := Lib.hid hO
    have HG := Lib.hid hget
    have HPD := Lib.hid hpd
    have HXK := Lib.hid hxk
    have HB3 := Lib.hid hb3
    have HK3 := Lib.hid hk3
    have HY3 := Lib.hid hY3
    have HI3 : Hid (X3.heap[W0.heap.size]? = some (.cells #[.int .i64 (p : Int)] 3 (0, 0)) ∧ Keep (fun i => i = W0.heap.size) L1 X3) := ⟨h1, h2⟩
    have HD3 : Hid (L1.heap.size + 1 < X3.heap.size) := hD3
    clear hr h1 h2 hO hp hxk hpd hget hY3 hb3 hk3 hD3 h06 hz h2w hry hba hac
    gi_wp2
    rw [← HY3.out]
    clear HY3 st
    refine ⟨keeps2_of (keepsO_below HB3.out) _, Keep.of_below HB3.out, ⟨by rw [HB3.out.block _ (lt_of_heap HI3.out.1), ← HPD.out]; exact HI3.out.1, HI3.out.2.trans (Keep.of_below HB3.out)⟩, fun V3 _ hkV hIV => ?_⟩
    rw [← HPD.out] at hIV
    obtain ⟨g1, g2⟩ := hIV
    have h06 := ZU1.out
    have hz := HZ1.out
    have h2w := BW0.out.size
    have hd3 := HD3.out
    have hkb : V3.heap[X3.heap.size]? = some (.cells (bA x.k) 31 (0, 0)) := hkV.heap HK3.out (by omega)
    have hba3 := HBA3.out.loop HRY.out hkV
    have hbl : Below w2.heap.size w2 V3 := (BU1.out.trans (HBL1.out.mono BU1.out.size)).trans (g2.below (by have := BU1.out.size; omega) fun i hi => by have e : i = W0.heap.size := hi; omega)
    have hsm : V3.heap[w2.heap.size]? = some (.cells #[.slice A2 O.length c2] 22 (0, 0)) := g2.heap (by rw [HBL1.out.block _ (lt_of_heap MU1.out)]; exact MU1.out) (by have := lt_of_heap MU1.out; omega)
    obtain ⟨e, he, hee⟩ : ∃ e, O[p]? = some e ∧ e.ent = x := by
      have := HG.out
      rw [List.getElem?_map] at this
      obtain ⟨e, h1, h2⟩ := Option.map_eq_some_iff.1 this
      exact ⟨e, h1, h2⟩
    obtain ⟨hok, g, o, hA2, hre⟩ := (HF2.out.ea.below hbl) p e he
    have hpl : p < O.length := (List.getElem?_eq_some_iff.1 he).1
    have hve := HVE.out e (List.mem_of_getElem? he)
    subst hA2
    have l1 : ∀ y : Later V3, y.w.cell? ⟨W0.heap.size, 0, none⟩ = some (.int .i64 (p : Int)) := fun y => by rw [cell_of_cells (y.block g1)]; rfl
    have l2 : ∀ y : Later V3, y.w.cell? ⟨w2.heap.size, 0, none⟩ = some (.slice (some ⟨g, o, none⟩) O.length c2) := fun y => by rw [cell_of_cells (y.block hsm)]; rfl
    have l3 : ∀ y : Later V3, ldA 31 y.w (.pointer (some ⟨X3.heap.size, 0, none⟩)) = .ok (.value (.agg (bA x.k))) y.w := fun y => ldA_row (t' := 31) (fr := (0, 0)) (y.block hkb) Tryd.underlying31 (by rw [bA_size, HXK.out]; exact infoKey)
    have l4 : ∀ y : Later V3, ldA 31 y.w (.pointer (some ⟨g, o + p * 33, none⟩)) = .ok (.value (.agg (bA e.k))) y.w := fun y => range_key (range_below hre y.h) hok.key
    have l5 : ∀ y : Later V3, y.w.cell? ⟨g, o + p * 33 + 32, none⟩ = some (.slice e.A e.v.length e.c) := fun y => range_val (range_below hre y.h) hok.key
    have hke : x.k = e.k := by rw [← hee]; rfl
    have hxv : x.v = e.v := by rw [← hee]; rfl
    have ne : ∀ u v w, eqA .neq 31 u v w (.agg (bA x.k)) (.agg (bA e.k)) = .ok (.value (.bool false)) w := fun u v w => by rw [neKey8 _ _ HXK.out hok.key, decide_eq_true hke]; rfl
    have HSA : Hid (∀ y : Later V3, Calls Tryd.prog 12 #[.slice A x.v.length c, .slice e.A e.v.length e.c] y.w fun u w'' => u = .returned (.bool true) ∧ ∃ z : Later V3, w'' = z.w) := fun y => by
      have := same_c A e.A c e.c x.v e.v y.w (hba3.below y.h) (hok.val.below y.h) (by rw [hxv]; omega) (by omega)
      rw [decide_eq_true hxv] at this
      exact Later.call this
    have d1 : decide ((O.length : Int) ≤ (p : Int)) = false := decide_eq_false (by omega)
    have d2 : decide (O.length ≤ p) = false := decide_eq_false (by omega)
    have p0 : (0 : Int) ≤ (p : Int) := by omega
    have p1 : (p : Int) < (O.length : Int) := by omega
    have HG1 := Lib.hid g1
    have HG2 := Lib.hid g2
    clear g1 g2 hkb hbl hsm he hee hok hre hke hkV hpl h06 hz h2w hd3 hba3 hve hxv
    gi_wp2
    refine round_later (fun ⟨_, _, h⟩ => h) (by rfl) (by kernel_rfl) (by kernel_rfl) ?_
    repeat (go_big_quiet_step ((go_at_call 12; exact HSA.out _)))
    refine wpQuiet_nil ?_
    rintro _ ⟨u, rfl⟩
    have hu1 := u.block HG1.out
    have c1 : u.w.cell? ⟨W0.heap.size, 0, none⟩ = some (.int .i64 (p : Int)) := by rw [cell_of_cells hu1]; rfl
    have z1 : u.w.frozen? ⟨W0.heap.size, 0, none⟩ = false := frozen_of_row u.w _ _ _ _ hu1
    have HFIN : Hid (Keeps2 L1.heap.size V3 (u.w.setCell ⟨W0.heap.size, 0, none⟩ (.int .i64 ((p : Int) + 1))) ∧ Keep (fun i => (w2.heap.size ≤ i ∧ ¬ O0 i) ∧ ¬ Ob i) V3 (u.w.setCell ⟨W0.heap.size, 0, none⟩ (.int .i64 ((p : Int) + 1))) ∧
        (u.w.setCell ⟨W0.heap.size, 0, none⟩ (.int .i64 ((p : Int) + 1))).heap[W0.heap.size]? = some (.cells #[.int .i64 ((p : Int) + 1)] 3 (0, 0)) ∧ Keep (fun i => i = W0.heap.size) L1 (u.w.setCell ⟨W0.heap.size, 0, none⟩ (.int .i64 ((p : Int) + 1)))) := by
      have hk1 : Keep (fun i => i = W0.heap.size) u.w (u.w.setCell ⟨W0.heap.size, 0, none⟩ (.int .i64 ((p : Int) + 1))) := Keep.cell u.w ⟨W0.heap.size, 0, none⟩ _
      have h06 := ZU1.out
      have hz := HZ1.out
      have h2w := BW0.out.size
      refine ⟨keeps2_of ((keepsO_below u.h).trans (KeepsOthers.setCell _ _ _)) _, (Keep.of_below u.h).trans (hk1.mono fun i hi => ?_), set_row hu1, (HG2.out.trans (Keep.of_below u.h)).trans hk1⟩
      have e : i = W0.heap.size := hi
      exact ⟨⟨by omega, fun h => by have := (HO0.out i h).2; omega⟩, fun h => by have := (HO.out i h).1; omega⟩
    clear l1 l2 l3 l4 l5 ne d1 d2 hu1 HSA
    gi_wp2
    obtain ⟨f1, f2, f3, f4⟩ := HFIN.out
    exact ⟨f1, f2, by rw [List.length_append, ← HPD.out]; exact f3, f4⟩
  case done =>
    rintro D Ob X1 rfl ⟨h1, h2⟩ hd
    rw [List.length_map] at h1
    have hkL : Keep (fun i => w2.heap.size ≤ i ∧ ¬ O0 i) W0 X1 := (KU1.out.trans (Keep.of_below HBL1.out)).trans (h2.mono fun i hi => by have e : i = W0.heap.size := hi; exact ⟨by omega, fun h => by have := (HO0.out i h).2; omega⟩)
    have KU2 := Lib.hid hkL
    have BU2 : Hid (Below w2.heap.size w2 X1) := (BU1.out.trans (HBL1.out.mono BU1.out.size)).trans (h2.below (by have := BU1.out.size; omega) fun i hi => by have e : i = W0.heap.size := hi; omega)
    have ZU2 : Hid (W0.heap.size ≤ X1.heap.size) := by show _ ≤ _; have := h2.size; omega
    have MU2 : Hid (X1.heap[w2.heap.size]? = some (.cells #[.slice A2 O.length c2] 22 (0, 0))) := h2.heap (by rw [HBL1.out.block _ (lt_of_heap MU1.out)]; exact MU1.out) (by have := lt_of_heap MU1.out; have := MW0.out; omega)
    have DX1 : Hid (X1.heap[L1.heap.size]? = some (.deferred (some []))) := hd
    have l1 : X1.cell? ⟨W0.heap.size, 0, none⟩ = some (.int .i64 (O.length : Int)) := by rw [cell_of_cells h1]; rfl
    have l2 : X1.cell? ⟨w2.heap.size, 0, none⟩ = some (.slice A2 O.length c2) := by rw [cell_of_cells MU2.out]; rfl
    have dn : ((O.length : Int) != (O.length : Int)) = false := by simp
    clear h1 h2 hd hkL h06 hz h2w
    go_wp2_with fail
    clear l1 l2 dn
    rw [rounds_succ]
    obtain ⟨L2, hL⟩ : ∃ L2, L2 = X1.alloc (.cells #[.int .i64 0] 3) := ⟨_, rfl⟩
    have hbL : Below X1.heap.size X1 L2 := by rw [hL]; exact (Below.refl _ _).alloc (Nat.le_refl _) _
    have hs0 : L2.heap[X1.heap.size]? = some (.cells #[.int .i64 0] 3 (0, 0)) := by rw [hL]; exact heap_alloc_new X1 _
    have hz : L2.heap.size = X1.heap.size + 1 := by rw [hL]; simp
    have HL2 := Lib.hid hL
    have HSEQ2 := Lib.hid (HSQ.out L2 (KU2.out.trans (Keep.of_below hbL)))
    have HBL2 := Lib.hid hbL
    have HS2 := Lib.hid hs0
    have HZ2 := Lib.hid hz
    clear hL hbL hs0 hz
    go_wp2_with fail
    rw [← HL2.out]
    have h06 := ZU2.out
    have hz := HZ2.out
    have h2w := BW0.out.size
    refine (wpIn_wide (n := 10)).1 ?_
    refine wpIn_rangeO (gf := gf) (lb := lb) rfl HENT.out HSEQ2.out (fun i hi _ => ⟨by omega, fun h => by have := (HO0.out i h).2; omega⟩) (fun x args X h => by obtain ⟨_, A, c, rfl, _⟩ := h; rfl)
      (fun pre Ob X => X.heap[X1.heap.size]? = some (.cells #[.int .i64 (pre.length : Int)] 3 (0, 0)) ∧ Keep (fun i => i = X1.heap.size) L2 X) (fun _ _ _ _ => False)
      (fun s Ob X Y Ob' ⟨h1, h2⟩ hO hs hk _ => ⟨hk.heap h1 fun h => by have := hO _ h; omega, h2.step hk fun i hi => .inr (by have := hO _ hi; omega)⟩)
      (fun s Ob X l o o' ⟨h1, h2⟩ hl _ _ _ => ⟨(World.putObj_heap_other (by omega)).trans h1, h2.step (keep_putObj (M := fun i => i = l) X l o' rfl) fun i hi => .inr (by have e : i = l := hi; omega)⟩)
      (fun _ _ _ _ _ _ h => h.elim) (fun _ _ _ _ _ _ _ h => h.elim)
      (fun X hX => ⟨by rw [hX.block _ (by omega)]; exact HS2.out, Keep.of_below hX⟩) ?round ?done ?stop
    case stop =>
      rintro D cc pre Ob X _ _ h _
      exact h.elim
    case round =>
      rintro l pre x Ob args X3 rfl ⟨r, hr⟩ ⟨h1, h2⟩ hO hp ⟨hxk, A, c, rfl, hba, hac⟩
      have hD3 := lt_of_heap hr
      obtain ⟨p, hpd⟩ : ∃ p, p = pre.length := ⟨_, rfl⟩
      have hget := pre_get hp
      rw [← hpd] at hget h1
      have st := stK11 (w := X3) hxk
      obtain ⟨Y3, hY3⟩ : ∃ Y3, Y3 = X3.alloc (.cells (bA x.k) 31) := ⟨_, rfl⟩
      have hb3 : Below X3.heap.size X3 Y3 := by rw [hY3]; exact (Below.refl _ _).alloc (Nat.le_refl _) _
      have hk3 : Y3.heap[X3.heap.size]? = some (.cells (bA x.k) 31 (0, 0)) := by rw [hY3]; exact heap_alloc_new X3 _
      have hry : Y3.heap[L2.heap.size + 1]? = some (.loop r) := by rw [hb3.block _ hD3]; exact hr
      have HRY := Lib.hid hry
      have HBA3 := Lib.hid (hba.below hb3)
      have HAC := Lib.hid hac
      have HO := Lib.hid hO
      have HG := Lib.hid hget
      have HPD := Lib.hid hpd
      have HXK := Lib.hid hxk
      have HB3 := Lib.hid hb3
      have HK3 := Lib.hid hk3
      have HY3 := Lib.hid hY3
      have HI3 : Hid (X3.heap[X1.heap.size]? = some (.cells #[.int .i64 (p : Int)] 3 (0, 0)) ∧ Keep (fun i => i = X1.heap.size) L2 X3) := ⟨h1, h2⟩
      have HD3 : Hid (L2.heap.size + 1 < X3.heap.size) := hD3
      clear hr h1 h2 hO hp hxk hpd hget hY3 hb3 hk3 hD3 h06 hz h2w hry hba hac
      gi_wp2
      rw [← HY3.out]
      clear HY3 st
      refine ⟨keeps2_of (keepsO_below HB3.out) _, Keep.of_below HB3.out, ⟨by rw [HB3.out.block _ (lt_of_heap HI3.out.1), ← HPD.out]; exact HI3.out.1, HI3.out.2.trans (Keep.of_below HB3.out)⟩, fun V3 _ hkV hIV => ?_⟩
      rw [← HPD.out] at hIV
      obtain ⟨g1, g2⟩ := hIV
      have h06 := ZU2.out
      have hz := HZ2.out
      have h2w := BW0.out.size
      have hd3 := HD3.out
      have hkb : V3.heap[X3.heap.size]? = some (.cells (bA x.k) 31 (0, 0)) := hkV.heap HK3.out (by omega)
      have hba3 := HBA3.out.loop HRY.out hkV
      have hbl : Below w2.heap.size w2 V3 := (BU2.out.trans (HBL2.out.mono BU2.out.size)).trans (g2.below (by have := BU2.out.size; omega) fun i hi => by have e : i = X1.heap.size := hi; omega)
      have hsm : V3.heap[w2.heap.size]? = some (.cells #[.slice A2 O.length c2] 22 (0, 0)) := g2.heap (by rw [HBL2.out.block _ (lt_of_heap MU2.out)]; exact MU2.out) (by have := lt_of_heap MU2.out; omega)
      obtain ⟨e, he, hee⟩ : ∃ e, O[p]? = some e ∧ e.ent = x := by
        have := HG.out
        rw [List.getElem?_map] at this
        obtain ⟨e, h1, h2⟩ := Option.map_eq_some_iff.1 this
        exact ⟨e, h1, h2⟩
      obtain ⟨hok, g, o, hA2, hre⟩ := (HF2.out.ea.below hbl) p e he
      have hpl : p < O.length := (List.getElem?_eq_some_iff.1 he).1
      have hve := HVE.out e (List.mem_of_getElem? he)
      subst hA2
      have l1 : ∀ y : Later V3, y.w.cell? ⟨X1.heap.size, 0, none⟩ = some (.int .i64 (p : Int)) := fun y => by rw [cell_of_cells (y.block g1)]; rfl
      have l2 : ∀ y : Later V3, y.w.cell? ⟨w2.heap.size, 0, none⟩ = some (.slice (some ⟨g, o, none⟩) O.length c2) := fun y => by rw [cell_of_cells (y.block hsm)]; rfl
      have l3 : ∀ y : Later V3, ldA 31 y.w (.pointer (some ⟨X3.heap.size, 0, none⟩)) = .ok (.value (.agg (bA x.k))) y.w := fun y => ldA_row (t' := 31) (fr := (0, 0)) (y.block hkb) Tryd.underlying31 (by rw [bA_size, HXK.out]; exact infoKey)
      have l4 : ∀ y : Later V3, ldA 31 y.w (.pointer (some ⟨g, o + p * 33, none⟩)) = .ok (.value (.agg (bA e.k))) y.w := fun y => range_key (range_below hre y.h) hok.key
      have l5 : ∀ y : Later V3, y.w.cell? ⟨g, o + p * 33 + 32, none⟩ = some (.slice e.A e.v.length e.c) := fun y => range_val (range_below hre y.h) hok.key
      have hke : x.k = e.k := by rw [← hee]; rfl
      have hxv : x.v = e.v := by rw [← hee]; rfl
      have ne : ∀ u v w, eqA .neq 31 u v w (.agg (bA x.k)) (.agg (bA e.k)) = .ok (.value (.bool false)) w := fun u v w => by rw [neKey8 _ _ HXK.out hok.key, decide_eq_true hke]; rfl
      have HSA : Hid (∀ y : Later V3, Calls Tryd.prog 12 #[.slice A x.v.length c, .slice e.A e.v.length e.c] y.w fun u w'' => u = .returned (.bool true) ∧ ∃ z : Later V3, w'' = z.w) := fun y => by
        have := same_c A e.A c e.c x.v e.v y.w (hba3.below y.h) (hok.val.below y.h) (by rw [hxv]; omega) (by omega)
        rw [decide_eq_true hxv] at this
        exact Later.call this
      have d1 : decide ((O.length : Int) ≤ (p : Int)) = false := decide_eq_false (by omega)
      have d2 : decide (O.length ≤ p) = false := decide_eq_false (by omega)
      have p0 : (0 : Int) ≤ (p : Int) := by omega
      have p1 : (p : Int) < (O.length : Int) := by omega
      have HG1 := Lib.hid g1
      have HG2 := Lib.hid g2
      clear g1 g2 hkb hbl hsm he hee hok hre hke hkV hpl h06 hz h2w hd3 hba3 hve hxv
      gi_wp2
      refine round_later (fun ⟨_, _, h⟩ => h) (by rfl) (by kernel_rfl) (by kernel_rfl) ?_
      repeat (go_big_quiet_step ((go_at_call 12; exact HSA.out _)))
      refine wpQuiet_nil ?_
      rintro _ ⟨u, rfl⟩
      have hu1 := u.block HG1.out
      have c1 : u.w.cell? ⟨X1.heap.size, 0, none⟩ = some (.int .i64 (p : Int)) := by rw [cell_of_cells hu1]; rfl
      have z1 : u.w.frozen? ⟨X1.heap.size, 0, none⟩ = false := frozen_of_row u.w _ _ _ _ hu1
      have HFIN : Hid (Keeps2 L2.heap.size V3 (u.w.setCell ⟨X1.heap.size, 0, none⟩ (.int .i64 ((p : Int) + 1))) ∧ Keep (fun i => (w2.heap.size ≤ i ∧ ¬ O0 i) ∧ ¬ Ob i) V3 (u.w.setCell ⟨X1.heap.size, 0, none⟩ (.int .i64 ((p : Int) + 1))) ∧
          (u.w.setCell ⟨X1.heap.size, 0, none⟩ (.int .i64 ((p : Int) + 1))).heap[X1.heap.size]? = some (.cells #[.int .i64 ((p : Int) + 1)] 3 (0, 0)) ∧ Keep (fun i => i = X1.heap.size) L2 (u.w.setCell ⟨X1.heap.size, 0, none⟩ (.int .i64 ((p : Int) + 1)))) := by
        have hk1 : Keep (fun i => i = X1.heap.size) u.w (u.w.setCell ⟨X1.heap.size, 0, none⟩ (.int .i64 ((p : Int) + 1))) := Keep.cell u.w ⟨X1.heap.size, 0, none⟩ _
        have h06 := ZU2.out
        have hz := HZ2.out
        have h2w := BW0.out.size
        refine ⟨keeps2_of ((keepsO_below u.h).trans (KeepsOthers.setCell _ _ _)) _, (Keep.of_below u.h).trans (hk1.mono fun i hi => ?_), set_row hu1, (HG2.out.trans (Keep.of_below u.h)).trans hk1⟩
        have e : i = X1.heap.size := hi
        exact ⟨⟨by omega, fun h => by have := (HO0.out i h).2; omega⟩, fun h => by have := (HO.out i h).1; omega⟩
      clear l1 l2 l3 l4 l5 ne d1 d2 hu1 HSA
      gi_wp2
      obtain ⟨f1, f2, f3, f4⟩ := HFIN.out
      exact ⟨f1, f2, by rw [List.length_append, ← HPD.out]; exact f3, f4⟩
    case done =>
      rintro D Ob X2 rfl ⟨h1, h2⟩ hd
      rw [List.length_map] at h1
      have hkL : Keep (fun i => w2.heap.size ≤ i ∧ ¬ O0 i) W0 X2 := (KU2.out.trans (Keep.of_below HBL2.out)).trans (h2.mono fun i hi => by have e : i = X1.heap.size := hi; exact ⟨by omega, fun h => by have := (HO0.out i h).2; omega⟩)
      have KU3 := Lib.hid hkL
      have BU3 : Hid (Below w2.heap.size w2 X2) := (BU2.out.trans (HBL2.out.mono BU2.out.size)).trans (h2.below (by have := BU2.out.size; omega) fun i hi => by have e : i = X1.heap.size := hi; omega)
      have ZU3 : Hid (W0.heap.size ≤ X2.heap.size) := by show _ ≤ _; have := h2.size; omega
      have MU3 : Hid (X2.heap[w2.heap.size]? = some (.cells #[.slice A2 O.length c2] 22 (0, 0))) := h2.heap (by rw [HBL2.out.block _ (lt_of_heap MU2.out)]; exact MU2.out) (by have := lt_of_heap MU2.out; have := MW0.out; omega)
      have DX2 : Hid (X2.heap[L2.heap.size]? = some (.deferred (some []))) := hd
      have DX1b : Hid (X2.heap[L1.heap.size]? = some (.deferred (some []))) := h2.heap (by rw [HBL2.out.block _ (lt_of_heap DX1.out)]; exact DX1.out) (by have := lt_of_heap DX1.out; omega)
      have l1 : X2.cell? ⟨X1.heap.size, 0, none⟩ = some (.int .i64 (O.length : Int)) := by rw [cell_of_cells h1]; rfl
      have l2 : X2.cell? ⟨w2.heap.size, 0, none⟩ = some (.slice A2 O.length c2) := by rw [cell_of_cells MU3.out]; rfl
      have dn : ((O.length : Int) != (O.length : Int)) = false := by simp
      clear h1 h2 hd hkL h06 hz h2w
      go_wp2_with fail
      clear l1 l2 dn
      rw [rounds_succ]
      go_wp2_with fail
      have hb2 : Below X.heap.size X X2 := HF2.out.bel.trans (BU3.out.mono HF2.out.bel.size)
      have hr2 : X2.heap[W.heap.size]? = some (.cells #[.bool false] 4 (0, 0)) := by rw [hb2.block _ (lt_of_heap HXR.out)]; exact HXR.out
      have HR2 := Lib.hid hr2
      have HALX : Hid (∀ y, Below X2.heap.size X2 y → Calls Tryd.prog 10 #[] y fun e w' => e = .returned (.bool true) ∧ Below y.heap.size y w') := fun y hy => HAL.out y ((HF2.out.vars.below BU3.out).below hy)
      have HEN : Hid (∀ y, Below X2.heap.size X2 y → Calls Tryd.prog 14 #[.pointer pT] y fun e w' => ∃ (A : Option Addr) (c : Nat) (es : List En), e = .returned (.slice A es.length c) ∧ Hid (EA w' A es ∧ es.map En.ent = O.map En.ent) ∧ Below y.heap.size y w') := fun y hy => by
        have := wk.entries y n T (O.map En.ent) (nd.below (nd.below HF2.out.ms BU3.out) hy) HI.out HAS.out HLK.out
        rw [HPT.out] at this
        refine this.mono ?_
        rintro _ w' ⟨A, c, es, rfl, h1, h2, h3⟩
        exact ⟨A, c, es, rfl, ⟨h1, h2⟩, h3⟩
      have HSM : Hid (∀ y, Below X2.heap.size X2 y → ∀ (A : Option Addr) (c : Nat) (es : List En), Hid (EA y A es ∧ es.map En.ent = O.map En.ent) → Calls Tryd.prog 13 #[.slice A es.length c, .slice A2 O.length c2] y fun e w' => e = .returned (.bool true) ∧ Below y.heap.size y w') := fun y hy A c es h => by
        obtain ⟨h1, h2⟩ := h.out
        have hl : es.length = O.length := by
          have := congrArg List.length h2
          rwa [List.length_map, List.length_map] at this
        have hv : ∀ e ∈ es, e.v.length ≤ 1000 := fun e he => by
          have h4 : e.ent ∈ O.map En.ent := by rw [← h2]; exact List.mem_map.2 ⟨e, he, rfl⟩
          obtain ⟨z, hz, hze⟩ := List.mem_map.1 h4
          have h5 : z.v = e.v := congrArg Ent.v hze
          rw [← h5]
          exact HVE.out z hz
        have := same7_c A A2 c c2 es O y h1 ((HF2.out.ea.below BU3.out).below hy) (by have := HLE.out; omega) (by have := HLE.out; omega) (fun e he => by have := hv e he; omega) (fun e he => by have := HVE.out e he; omega)
        rwa [decide_eq_true h2] at this
      have LM : Hid (∀ v, Keep (fun i => i = W.heap.size) X2 v → v.cell? ⟨w2.heap.size, 0, none⟩ = some (.slice A2 O.length c2)) := fun v hv => by
        have h1 := HF2.out.bel.size
        have h2 := lt_of_heap HXR.out
        rw [cell_of_cells (hv.heap MU3.out (by omega))]
        rfl
      have LR : Hid (∀ y, Below X2.heap.size X2 y → y.cell? ⟨W.heap.size, 0, none⟩ = some (.bool false) ∧ y.frozen? ⟨W.heap.size, 0, none⟩ = false) := fun y hy => by
        have h1 : y.heap[W.heap.size]? = some (.cells #[.bool false] 4 (0, 0)) := by rw [hy.block _ (lt_of_heap HR2.out)]; exact HR2.out
        exact ⟨by rw [cell_of_cells h1]; rfl, frozen_of_row y _ _ _ _ h1⟩
      have HBX2 := Lib.hid hb2
      clear hb2 hr2
      refine wp_quiet11 ?_
      refine wp_region_held_drew (S := fun w' => Keep (fun i => i = W.heap.size) X2 w') (by kernel_rfl) ((Keep.refl _ _).drew) (fun hHeld => ?_)
      have hb0 : Keep (fun i => i = W.heap.size) X2 X2.drew := (Keep.refl _ _).drew
      refine wpAnyH_ready (rs := [0]) (by kernel_rfl) (by simp) ?_
      refine AllReadyH.cons (o := { dst := some 59, op := .call _, type := _, pos := _, after := _, guard := _ }) rfl (fun K hK => ?_) AllReadyH.nil
      go_simp
      refine (HALX.out X2.drew ((Below.refl _ _).drew)).mono ?_
      rintro e y1 ⟨rfl, hb⟩
      have hb1 : Keep (fun i => i = W.heap.size) X2 y1 := (hb0).trans (Keep.of_below hb)
      have hbb1 : Below X2.heap.size X2 y1 := keeps ((Below.refl _ _).drew) hb
      clear hb
      go_wp2_with fail
      refine hK.out _ _ (hb1) (fun hHeld => ?_)
      clear hK K
      try simp only [Act.put, List.setIfInBounds_toArray, List.set_cons_zero, List.set_cons_succ]
      refine wpAnyH_take (i := 1) (oi := { dst := some 60, op := .move (.tmp 59), type := _, pos := _, after := _, guard := _ }) (v := ?_) rfl (by kernel_rfl) (by kernel_rfl) (by kernel_rfl) (fun _ _ _ h => h) (Or.inl ⟨by rfl, ?_⟩) (by assumption) ?_
      rotate_left 1
      · intro v hSv
        clear hSv
        go_simp
        try with_reducible rfl
      try simp only [Act.put, List.setIfInBounds_toArray, List.set_cons_zero, List.set_cons_succ]
      refine wpAnyH_take (i := 2) (oi := { dst := some 61, op := .move (.tmp 6), type := _, pos := _, after := _, guard := _ }) (v := ?_) rfl (by kernel_rfl) (by kernel_rfl) (by kernel_rfl) (fun _ _ _ h => h) (Or.inl ⟨by rfl, ?_⟩) (by assumption) ?_
      rotate_left 1
      · intro v hSv
        clear hSv
        go_simp
        try with_reducible rfl
      try simp only [Act.put, List.setIfInBounds_toArray, List.set_cons_zero, List.set_cons_succ]
      refine wpAnyH_take (i := 4) (oi := { dst := some 63, op := .load _ (.tmp 5), type := _, pos := _, after := _, guard := _ }) (v := ?_) rfl (by kernel_rfl) (by kernel_rfl) (by kernel_rfl) (fun _ _ _ h => h) (Or.inl ⟨by rfl, ?_⟩) (by assumption) ?_
      rotate_left 1
      · intro v hSv
        have hv1 := LM.out v hSv
        clear hSv
        go_simp
        try with_reducible rfl
      try simp only [Act.put, List.setIfInBounds_toArray, List.set_cons_zero, List.set_cons_succ]
      refine wpAnyH_ready (rs := [3]) (by kernel_rfl) (by simp) ?_
      refine AllReadyH.cons (o := { dst := some 62, op := .call _, type := _, pos := _, after := _, guard := _ }) rfl (fun K hK => ?_) AllReadyH.nil
      go_simp
      refine (HEN.out y1 hbb1).mono ?_
      rintro e y2 ⟨A9, c9, es9, rfl, HE9, hb⟩
      have hb2 : Keep (fun i => i = W.heap.size) X2 y2 := (hb1).trans (Keep.of_below hb)
      have hbb2 : Below X2.heap.size X2 y2 := keeps hbb1 hb
      clear hb
      go_wp2_with fail
      refine hK.out _ _ (hb2) (fun hHeld => ?_)
      clear hK K
      try simp only [Act.put, List.setIfInBounds_toArray, List.set_cons_zero, List.set_cons_succ]
      refine wpAnyH_ready (rs := [5]) (by kernel_rfl) (by simp) ?_
      refine AllReadyH.cons (o := { dst := some 64, op := .call _, type := _, pos := _, after := _, guard := _ }) rfl (fun K hK => ?_) AllReadyH.nil
      go_simp
      refine (HSM.out y2 hbb2 _ _ _ HE9).mono ?_
      rintro e y3 ⟨rfl, hb⟩
      have hb3 : Keep (fun i => i = W.heap.size) X2 y3 := (hb2).trans (Keep.of_below hb)
      have hbb3 : Below X2.heap.size X2 y3 := keeps hbb2 hb
      clear hb
      go_wp2_with fail
      refine hK.out _ _ (hb3) (fun hHeld => ?_)
      clear hK K
      try simp only [Act.put, List.setIfInBounds_toArray, List.set_cons_zero, List.set_cons_succ]
      refine wpAnyH_take (i := 6) (oi := { dst := some 65, op := .pick (.tmp 60) (.tmp 64) (.const (.bool false)), type := _, pos := _, after := _, guard := _ }) (v := ?_) rfl (by kernel_rfl) (by kernel_rfl) (by kernel_rfl) (fun _ _ _ h => h) (Or.inl ⟨by rfl, ?_⟩) (by assumption) ?_
      rotate_left 1
      · intro v hSv
        clear hSv
        go_simp
        try with_reducible rfl
      try simp only [Act.put, List.setIfInBounds_toArray, List.set_cons_zero, List.set_cons_succ]
      refine wpAnyH_ready (rs := [7]) (by kernel_rfl) (by simp) ?_
      refine AllReadyH.cons (o := { dst := none, op := .store _ (.tmp 4) (.tmp 65), type := _, pos := _, after := _, guard := _ }) rfl (fun K hK => ?_) AllReadyH.nil
      obtain ⟨c4, z4⟩ := LR.out y3 hbb3
      go_simp
      refine hK.out _ _ ((hb3).trans (Keep.cell _ ⟨W.heap.size, 0, none⟩ _)) (fun hHeld => ?_)
      clear hK K
      try simp only [Act.put, List.setIfInBounds_toArray, List.set_cons_zero, List.set_cons_succ]
      refine wpAnyH_done (by kernel_rfl) ?_ _
      have HKF := Lib.hid hHeld
      have h3r : y3.heap[W.heap.size]? = some (.cells #[.bool false] 4 (0, 0)) := by rw [hbb3.block _ (lt_of_heap HR2.out)]; exact HR2.out
      have HZR : Hid ((y3.setCell ⟨W.heap.size, 0, none⟩ (.bool true)).heap[W.heap.size]? = some (.cells #[.bool true] 4 (0, 0))) := set_row h3r
      clear h3r hbb1 hbb2 hbb3 HE9
      refine Quiet11.normal ?_
      go_wp2_with fail
      have hW := lt_of_heap HXR.out
      have hW2 := HF2.out.bel.size
      have hl1 := ZU1.out
      have hl2 := HZ1.out
      have hl3 := ZU2.out
      have hl4 := HZ2.out
      have hl5 := BW0.out.size
      have hl6 := lt_of_heap DX1.out
      have hW0 := HB0.out.size
      have d2 := HKF.out.heap DX2.out (by omega)
      have d1 := HKF.out.heap DX1b.out (by omega)
      refine ⟨by simp, .inl ⟨_, _, rfl, run_takeDeferred d2, ⟨by simp, .inl ⟨_, _, rfl, run_takeDeferred ((World.putObj_heap_other (by omega)).trans d1), ?_⟩⟩⟩⟩
      refine ⟨_, resB rfl ((World.putObj_heap_other (by omega)).trans ((World.putObj_heap_other (by omega)).trans HZR.out)) _ rfl, rfl, ?_⟩
      have hb7 : Below W.heap.size W X2 := HB0.out.trans (HBX2.out.mono HB0.out.size)
      have hb8 : Below W.heap.size W (y3.setCell ⟨W.heap.size, 0, none⟩ (.bool true)) := hb7.trans (HKF.out.below hb7.size fun i hi => by have e : i = W.heap.size := hi; omega)
      have hb9 := hb8.trans ((keep_putObj (M := fun i => i = L2.heap.size) _ _ (.deferred none) rfl).below hb8.size fun i hi => by have e : i = L2.heap.size := hi; omega)
      exact hb9.trans ((keep_putObj (M := fun i => i = L1.heap.size) _ _ (.deferred none) rfl).below hb9.size fun i hi => by have e : i = L1.heap.size := hi; omega)
set_option maxHeartbeats 16000000 in
set_option maxRecDepth 100000 in
/-- Other bits, or entries that are not few: alive. -/
theorem lists_out {M : World → Int → Tv → Prop} (nd : NdV M) (pv : PtV M) (wk : WkV M) (n : Int) (A : Option Addr) (c : Nat) (es : List En)  (W : World) (hA : EA W A es) (hvx : Vars W) (h : (n < 0 ∨ 256 < n) ∨ fewK (es.map En.ent) = false) :
    Calls Tryd.prog 3 #[.int .i64 n, .slice A es.length c] W (Aye W) := by
  obtain ⟨X, hX⟩ : ∃ X, X = W.alloc (.cells #[.bool false] 4) := ⟨_, rfl⟩
  have hb0 : Below W.heap.size W X := by rw [hX]; exact (Below.refl _ _).alloc (Nat.le_refl _) _
  have hxr : X.heap[W.heap.size]? = some (.cells #[.bool false] 4 (0, 0)) := by rw [hX]; exact heap_alloc_new W _
  have HXR := Lib.hid hxr
  clear hxr
  have HX := Lib.hid hX
  have HB0 := Lib.hid hb0
  have HVX := Lib.hid (hvx.below hb0)
  have HT := Lib.hid (tree_out n A c es X (hA.below hb0) h)
  have HAL := Lib.hid (fun w h => alive11_c nd pv wk w h)
  clear hA hvx h hX hb0
  go_enter Tryd.func3, Tryd.ntmps3
  go_wp2_with fail
  rw [← HX.out]
  clear HX
  refine HT.out.mono ?_
  rintro _ w2 ⟨rfl, hB⟩
  obtain ⟨V, hV⟩ : ∃ V, V = w2.alloc (.cells #[.slice none 0 0] 22) := ⟨_, rfl⟩
  have hbV : Below w2.heap.size w2 V := by rw [hV]; exact (Below.refl _ _).alloc (Nat.le_refl _) _
  have HV := Lib.hid hV
  have HB := Lib.hid (hB.trans (hbV.mono hB.size))
  clear hB HT hV hbV
  go_wp2_with fail
  rw [← HV.out]
  clear HV
  refine (HAL.out V (HVX.out.below HB.out)).mono ?_
  rintro _ w3 ⟨rfl, hB⟩
  have HB3 := Lib.hid (HB.out.trans (hB.mono HB.out.size))
  have h3r : w3.heap[W.heap.size]? = some (.cells #[.bool false] 4 (0, 0)) := by rw [HB3.out.block _ (lt_of_heap HXR.out)]; exact HXR.out
  have l4 : w3.cell? ⟨W.heap.size, 0, none⟩ = some (.bool false) := by rw [cell_of_cells h3r]; rfl
  have l5 : w3.frozen? ⟨W.heap.size, 0, none⟩ = false := frozen_of_row w3 _ _ _ _ h3r
  have HFIN : Hid ((w3.setCell ⟨W.heap.size, 0, none⟩ (.bool true)).heap[W.heap.size]? = some (.cells #[.bool true] 4 (0, 0)) ∧ Below W.heap.size W (w3.setCell ⟨W.heap.size, 0, none⟩ (.bool true))) :=
    ⟨set_row h3r, (HB0.out.trans (HB3.out.mono HB0.out.size)).setCell (by show W.heap.size ≤ W.heap.size; omega) _⟩
  clear hB HAL h3r
  go_wp2_with fail
  exact bodyPost_ret (v := .bool true) (resB rfl HFIN.out.1 _ rfl) rfl ⟨rfl, HFIN.out.2⟩
end Go.Proofs.YtjnhhcbplhmemaaDoor

/- The laws of layer 11, their cases together. -/
namespace Go.Proofs.YtjnhhcbplhmemaaDoor
open Go.RowKit

theorem ranks_w {M : World → Int → Tv → Prop} (nd : NdV M) (pv : PtV M) (wk : WkV M) (n : Int) (A : Option Addr) (c : Nat) (es : List En) (k : List UInt8) (hk : k.length = 32) (W : World) (hA : EA W A es) (hvx : Vars W) : Calls Tryd.prog 6 #[.int .i64 n, .slice A es.length c, .agg (bA k)] W (Aye W) := by
  rcases few_cases n es with h | ⟨h0, h1, hf, hl, hvl⟩
  · exact ranks_out nd pv wk n A c es k W hA hvx h
  · exact ranks_in nd pv wk n A c es k hk W hA hl hvl hf hvx h0 h1
theorem nth_w {M : World → Int → Tv → Prop} (nd : NdV M) (pv : PtV M) (wk : WkV M) (n : Int) (A : Option Addr) (c : Nat) (es : List En) (i : Int) (hi0 : -9223372036854775808 ≤ i) (hi1 : i ≤ 9223372036854775807) (W : World) (hA : EA W A es) (hvx : Vars W) : Calls Tryd.prog 7 #[.int .i64 n, .slice A es.length c, .int .i64 i] W (Aye W) := by
  rcases few_cases n es with h | ⟨h0, h1, hf, hl, hvl⟩
  · exact nth_out nd pv wk n A c es i W hA hvx h
  · by_cases hq : 0 ≤ i ∧ i < ((ofE es).length : Int)
    · obtain ⟨m, rfl⟩ : ∃ m : Nat, i = (m : Int) := ⟨i.toNat, by omega⟩
      exact nth_in nd pv wk n A c es m (by omega) W hA hl hvl hf hvx h0 h1
    · exact nth_off nd pv wk n A c es i hi0 hi1 hq W hA hl hvl hf hvx h0 h1
theorem from_w {M : World → Int → Tv → Prop} (nd : NdV M) (pv : PtV M) (wk : WkV M) (n : Int) (A : Option Addr) (c : Nat) (es : List En) (k : List UInt8) (d : Int) (hk : k.length = 32) (hd0 : -9223372036854775808 ≤ d) (hd1 : d ≤ 9223372036854775807) (W : World) (hA : EA W A es) (hvx : Vars W) : Calls Tryd.prog 5 #[.int .i64 n, .slice A es.length c, .agg (k.map bv ++ [Value.int .i64 d]).toArray] W (Aye W) := by
  rcases few_cases n es with h | ⟨h0, h1, hf, hl, hvl⟩
  · exact from_out nd pv wk n A c es k d W hA hvx h
  · exact from_in nd pv wk n A c es k hk d hd0 hd1 W hA hl hvl hf hvx h0 h1
theorem depths_w {M : World → Int → Tv → Prop} (nd : NdV M) (fv : FnV M) (pv : PtV M) (wk : WkV M) (n : Int) (A : Option Addr) (c : Nat) (es : List En) (W : World) (hA : EA W A es) (hvx : Vars W) : Calls Tryd.prog 8 #[.int .i64 n, .slice A es.length c] W (Aye W) := by
  rcases few_cases n es with h | ⟨h0, h1, hf, hl, hvl⟩
  · exact depths_out nd pv wk n A c es W hA hvx h
  · exact depths_in nd pv wk n A c es fv W hA hl hvl hf hvx h0 h1
theorem stops_w {M : World → Int → Tv → Prop} (nd : NdV M) (pv : PtV M) (wk : WkV M) (n : Int) (A : Option Addr) (c : Nat) (es : List En) (a : Int) (ha0 : 0 ≤ a) (ha1 : a ≤ 255) (W : World) (hA : EA W A es) (hvx : Vars W) : Calls Tryd.prog 4 #[.int .i64 n, .slice A es.length c, .int .u8 a] W (Aye W) := by
  obtain ⟨q, rfl⟩ : ∃ q : Nat, a = (q : Int) := ⟨a.toNat, by omega⟩
  rcases few_cases n es with h | ⟨h0, h1, hf, hl, hvl⟩
  · exact stops_out nd pv wk n A c es q W hA hvx h
  · exact stops_in nd pv wk n A c es q (by omega) W hA hl hvl hf hvx h0 h1
theorem lists_w {M : World → Int → Tv → Prop} (nd : NdV M) (pv : PtV M) (wk : WkV M) (n : Int) (A : Option Addr) (c : Nat) (es : List En) (W : World) (hA : EA W A es) (hvx : Vars W) : Calls Tryd.prog 3 #[.int .i64 n, .slice A es.length c] W (Aye W) := by
  rcases few_cases n es with h | ⟨h0, h1, hf, hl, hvl⟩
  · exact lists_out nd pv wk n A c es W hA hvx h
  · exact lists_in nd pv wk n A c es W hA hl hvl hf hvx h0 h1
end Go.Proofs.YtjnhhcbplhmemaaDoor
