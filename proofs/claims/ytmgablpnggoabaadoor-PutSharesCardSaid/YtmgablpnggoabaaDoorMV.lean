/- Several texts in one: Te Tf Tg Th Ti Xj. -/
import Derived.Test.YtmgablpnggoabaaDoorMU
/- The walk of PutPuts over contracts. -/
namespace Go.Proofs.YtmgablpnggoabaaDoor
open Go.RowKit

set_option maxHeartbeats 16000000 in
set_option maxRecDepth 100000 in
theorem puts_in {M : World → Int → Tv → Prop} (nd : NdV M) (fv : FnV M) (pv : PtV M) (n : Int) (A : Option Addr) (c : Nat) (es : List En) (x : En) (W : World) (hA : EA W A es) (hl : es.length ≤ 12) (hvl : ∀ e ∈ es, e.v.length ≤ 1000) (hf : fewK (es.map En.ent) = true) (hvx : Vars W) (h0 : 0 ≤ n) (h1 : n ≤ 256) (hx : EnOk W x) (hxl : x.v.length ≤ 200) :
    Calls Tryd.prog 3 #[.int .i64 n, .slice A es.length c, .agg (enC x).toArray] W (Aye W) := by
  obtain ⟨X, hX⟩ : ∃ X, X = W.alloc (.cells (enC x).toArray 27) := ⟨_, rfl⟩
  have hb0 : Below W.heap.size W X := by rw [hX]; exact (Below.refl _ _).alloc (Nat.le_refl _) _
  have hr0 : X.rangeAt W.heap.size 0 (enC x) := by rw [hX]; exact ent_made W x _
  have HR0 := Lib.hid hr0
  have HXO := Lib.hid (hx.below hb0)
  have HXL := Lib.hid hxl
  clear hr0 hx hxl
  have HX := Lib.hid hX
  have HB0 := Lib.hid hb0
  have HT := Lib.hid (tree_in nd n A c es X (hA.below hb0) hl hvl hf (hvx.below hb0) h0 h1)
  have HVE : Hid (∀ e ∈ ofE es, e.v.length ≤ 1000) := fun e he => hvl e (ofE_mem he)
  have HLE : Hid ((ofE es).length ≤ 12) := Nat.le_trans (ofE_len es) hl
  clear hA hvl hf hvx hX hb0
  go_enter Tryd.func3, Tryd.ntmps3
  go_wp2_with fail
  rw [← HX.out]
  clear HX
  refine HT.out.mono ?_
  rintro _ w2 ⟨A2, c2, T, rfl, hc2, hI, hF⟩
  have HI := Lib.hid hI
  have HF2 := Lib.hid hF
  have HC2 := Lib.hid hc2
  obtain ⟨O, hO⟩ : ∃ O, O = ofE es := ⟨_, rfl⟩
  rw [← hO] at HI HF2 HVE HLE HC2 ⊢
  obtain ⟨pT, hpT⟩ := val_ptr nd hF.ms
  have HPT := Lib.hid hpT
  rw [hpT]
  have HH := Lib.hid (hash_in n w2 h0 h1)
  clear hc2 hI hF HT hO hpT
  go_wp2_with fail
  refine HH.out.mono ?_
  rintro _ w3 ⟨b, rfl, hbn, hH, hB⟩
  have HQ3 : Hid (Tf M X n A2 O T b 0 w3) := ⟨HF2.out.below nd hB, ⟨0, Nat.le_refl _, hH⟩, Nat.le_trans HF2.out.bel.size hbn⟩
  clear hH hbn hB HH HF2
  unfold ptr
  have lv := range_val (range_below HR0.out HQ3.out.fs.bel) HXO.out.key
  rw [Nat.zero_add] at lv
  have e2 : decide (200 < (x.v.length : Int)) = false := decide_eq_false (by have := HXL.out; omega)
  have e1 : decide (200 < x.v.length) = false := decide_eq_false (by have := HXL.out; omega)
  have HCL := Lib.hid (clone_newS x.A x.v x.c w3 (HXO.out.val.below HQ3.out.fs.bel) (by have := HXL.out; omega))
  go_wp2_with fail
  refine HCL.out.mono ?_
  rintro _ w4 ⟨Ao, co, rfl, hN, hB⟩
  have HN := Lib.hid hN
  have HQ4 := Lib.hid (HQ3.out.below nd hB)
  have HB34 := Lib.hid hB
  have lk := range_key (range_below HR0.out HQ4.out.fs.bel) HXO.out.key
  have bE := bldEntry ⟨x.k, Ao, x.v, co⟩ HXO.out.key w4
  obtain ⟨m4, hm4, hh4⟩ := HQ4.out.hs
  have HM4 := Lib.hid hm4
  have HP := Lib.hid (pv.put w4 b n m4 _ T ⟨x.k, Ao, x.v, co⟩ hh4 (by omega) HQ4.out.fs.vars HQ4.out.fs.ms HI.out (by rw [List.length_map]; have := HLE.out; omega) ⟨HXO.out.key, hN.1, hN.ba⟩ (show x.v.length ≤ 1000 by have := HXL.out; omega))
  rw [show (En.ent ⟨x.k, Ao, x.v, co⟩) = x.ent from rfl, HPT.out] at HP
  unfold ptr at HP
  clear hN hB HCL hm4 hh4 lv
  go_wp2_with fail
  refine HP.out.mono ?_
  rintro _ w5 ⟨T', rfl, hI, hm⟩
  have HI' := Lib.hid hI
  have HMD := Lib.hid hm
  have HQ5 := Lib.hid (HQ4.out.made nd hm.keep hm.hs)
  obtain ⟨pT', hpT'⟩ := val_ptr nd hm.ms
  have HPT' := Lib.hid hpT'
  rw [hpT']
  have HO5 : Hid (x.v = [] ∨ OwnB w5 w3.heap.size (.slice Ao x.v.length co) x.v) := by
    have := HQ3.out.hs
    obtain ⟨c0, _, h0⟩ := this
    have hb3 := lt_of_heap h0
    exact (NewB.keep2 HN.out hm.keep fun i hi => by have e : i = b := hi; omega).2
  have HGA : Hid (∀ g, Ao = some ⟨g, 0, none⟩ → 0 < x.v.length → g < w4.heap.size) := fun g hg hpos => by
    rcases HN.out.2 with h | h
    · rw [h] at hpos; exact absurd hpos (Nat.lt_irrefl 0)
    · obtain ⟨g', hg', _, hl, _⟩ := h.at hpos
      rw [hg] at hg'
      cases hg'
      exact hl
  clear hI hm hpT' HP lk bE HN
  go_wp2_with fail
  have HSZ : Hid (w3.heap.size ≤ w4.heap.size ∧ w4.heap.size ≤ w5.heap.size) := ⟨HB34.out.size, HMD.out.keep.size⟩
  go_loopg [13, 44] x.v.length (fun gg _ i wr => ∃ (k : Nat) (l' : List UInt8), i = .int .i64 k ∧ k ≤ x.v.length ∧ x.v.length - k = gg ∧ l'.length = x.v.length ∧ (x.v = [] ∨ OwnB wr w3.heap.size (.slice Ao x.v.length co) l') ∧ Keep (fun i => w3.heap.size ≤ i ∧ i < w4.heap.size) w5 wr)
  case atStart => exact ⟨0, x.v, rfl, by omega, by omega, rfl, HO5.out, Keep.refl _ _⟩
  case round =>
    obtain ⟨k, l', rfl, hkl, rfl, hl', hO, hK⟩ := hrel
    have HKr := Lib.hid hK
    have HL' := Lib.hid hl'
    by_cases hlt : k < x.v.length
    · have hO1 : OwnB wr w3.heap.size (.slice Ao l'.length co) l' := by
        rw [hl']
        rcases hO with h | h
        · rw [h] at hlt; exact absurd hlt (Nat.not_lt_zero _)
        · exact h
      obtain ⟨y, hy⟩ : ∃ y, l'[k]? = some y := ⟨_, List.getElem?_eq_getElem (by omega)⟩
      clear hO hK hl'
      obtain ⟨g, rfl, hg, hgl, hfz, hcell, hset⟩ := hO1.at (by have := HL'.out; omega)
      have hc2 : wr.cell? ⟨g, k, none⟩ = some (.int .u8 (y.toNat : Int)) := hcell k y hy
      have hf := hfz k
      obtain ⟨z, hz⟩ := incr y
      have HSET : Hid (OwnB (wr.setCell ⟨g, k, none⟩ (bv z)) w3.heap.size (.slice (some ⟨g, 0, none⟩) x.v.length co) (l'.set k z)) := by
        have := hset k z (by have := HL'.out; omega)
        rw [HL'.out] at this
        exact this
      have HGL := Lib.hid (HGA.out g rfl (by omega))
      have HGB := Lib.hid hg
      have hx200 : x.v.length ≤ 200 := HXL.out
      have dk : decide (k < x.v.length) = true := decide_eq_true hlt
      have p0 : (0 : Int) ≤ (k : Int) := by omega
      have p1 : (k : Int) < (x.v.length : Int) := by omega
      clear hO1 hcell hset hfz hy hg hgl
      go_wp2_with fail
      go_roundg (x.v.length - (k + 1))
      case measure => omega
      case rel =>
        refine ⟨k + 1, l'.set k z, by go_num, by omega, rfl, by rw [List.length_set]; exact HL'.out, .inr HSET.out, ?_⟩
        exact HKr.out.step (Keep.cell wr ⟨g, k, none⟩ _) fun i hi => .inl (by
          have e : i = g := hi
          have := HGL.out
          have := HGB.out
          omega)
    · obtain rfl : k = x.v.length := by omega
      have dk : decide (x.v.length < x.v.length) = false := decide_eq_false (by omega)
      have HQ6 : Hid (Tf M X n A2 O T b 2000 wr) := by
        have h36 : Keep (fun i => i = b) w3 wr := ((Keep.of_below (L := fun i => i = b) HB34.out).trans HMD.out.keep).step HKr.out fun i hi => .inr hi.1
        obtain ⟨c5, hc5, hh5⟩ := HMD.out.hs
        obtain ⟨c3, hc3, hh3⟩ := HQ3.out.hs
        have hb3 := lt_of_heap hh3
        exact HQ3.out.made nd h36 ⟨c5, by have := HM4.out; omega, hh5.keep HKr.out fun h => by omega⟩
      have HM6 : Hid (M wr n T') := HMD.out.aft wr (HKr.out.mono fun i hi => hi.2) HQ6.out.fs.ms
      clear hO hK hl' hlt HKr HL' HMD HQ5 HQ4 HQ3 HGA HO5 HB34
      obtain ⟨w6, hw6⟩ : ∃ w6, w6 = wr := ⟨_, rfl⟩
      rw [← hw6] at HQ6 HM6 ⊢
      clear hw6
      have HAL := Lib.hid (alive9_c nd fv pv w6 HQ6.out.fs.vars)
      go_wp2_with fail
      refine HAL.out.mono ?_
      rintro _ w7 ⟨rfl, hB⟩
      have HQ7 := Lib.hid (HQ6.out.below nd hB)
      have HM7 := Lib.hid (nd.below HM6.out hB)
      have lk := range_key (range_below HR0.out HQ7.out.fs.bel) HXO.out.key
      have lv := range_val (range_below HR0.out HQ7.out.fs.bel) HXO.out.key
      rw [Nat.zero_add] at lv
      have HP := Lib.hid (put7_c A2 c2 O x w7 HQ7.out.fs.ea (by have := HLE.out; omega) (HXO.out.below HQ7.out.fs.bel))
      clear hB HAL HQ6 HM6
      go_wp2_with fail
      refine HP.out.mono ?_
      rintro _ w8 ⟨v8, rfl, hO8, hB⟩
      have HQ8 := Lib.hid (HQ7.out.below nd hB)
      have HM8 := Lib.hid (nd.below HM7.out hB)
      obtain ⟨A8, c8, rfl, hc8, hE8⟩ := hO8.ea (fun e he => by
        rcases putE_mem he with rfl | h
        · exact (HXO.out.below HQ7.out.fs.bel).below hB
        · exact (HQ7.out.fs.ea.mem e h).below hB)
      have HE8 := Lib.hid hE8
      clear hO8 hc8 hE8 hB HP HQ7 HM7 lk lv
      obtain ⟨m8, hm8, hh8⟩ := HQ8.out.hs
      have HIS := Lib.hid (is_c nd fv w8 b n m8 T' A8 c8 (putE O x) hh8 (by omega) HQ8.out.fs.vars HM8.out (by rw [putE_ent]; exact HI'.out) HE8.out (by have := putE_len O x; have := HLE.out; omega) (fun e he => by
        rcases putE_mem he with rfl | h
        · have := HXL.out; omega
        · exact HVE.out e h))
      rw [HPT'.out] at HIS
      unfold ptr at HIS
      have hm8' : m8 ≤ 2000 := hm8
      clear hh8 HE8
      go_wp2_with fail
      refine HIS.out.mono ?_
      rintro _ w9 ⟨rfl, c9, hc9, hh9, hk9⟩
      have HQ9 := Lib.hid (HQ8.out.made nd hk9 ⟨c9, Nat.le_refl _, hh9⟩)
      have HIS2 := Lib.hid (is_c nd fv w9 b n c9 T A2 c2 O hh9 (by omega) HQ9.out.fs.vars HQ9.out.fs.ms HI.out HQ9.out.fs.ea (by have := HLE.out; omega) HVE.out)
      rw [HPT.out] at HIS2
      unfold ptr at HIS2
      clear hc9 hh9 hk9 HIS HQ8 HM8
      go_wp2_with fail
      refine HIS2.out.mono ?_
      rintro _ wa ⟨rfl, ca, hca, hha, hka⟩
      have HQa := Lib.hid (HQ9.out.made nd hka ⟨ca, Nat.le_refl _, hha⟩)
      clear hca hha hka HIS2 HQ9
      go_wp2_with fail
      go_ret
      exact ⟨rfl, HB0.out.trans (HQa.out.fs.bel.mono HB0.out.size)⟩
set_option maxHeartbeats 16000000 in
set_option maxRecDepth 100000 in
theorem puts_long {M : World → Int → Tv → Prop} (nd : NdV M) (fv : FnV M) (pv : PtV M) (n : Int) (A : Option Addr) (c : Nat) (es : List En) (x : En) (W : World) (hA : EA W A es) (hl : es.length ≤ 12) (hvl : ∀ e ∈ es, e.v.length ≤ 1000) (hf : fewK (es.map En.ent) = true) (hvx : Vars W) (h0 : 0 ≤ n) (h1 : n ≤ 256) (hx : EnOk W x) (hxl : 200 < x.v.length) :
    Calls Tryd.prog 3 #[.int .i64 n, .slice A es.length c, .agg (enC x).toArray] W (Aye W) := by
  obtain ⟨X, hX⟩ : ∃ X, X = W.alloc (.cells (enC x).toArray 27) := ⟨_, rfl⟩
  have hb0 : Below W.heap.size W X := by rw [hX]; exact (Below.refl _ _).alloc (Nat.le_refl _) _
  have hr0 : X.rangeAt W.heap.size 0 (enC x) := by rw [hX]; exact ent_made W x _
  have HR0 := Lib.hid hr0
  have HXO := Lib.hid (hx.below hb0)
  have HXL := Lib.hid hxl
  clear hr0 hx hxl
  have HX := Lib.hid hX
  have HB0 := Lib.hid hb0
  have HT := Lib.hid (tree_in nd n A c es X (hA.below hb0) hl hvl hf (hvx.below hb0) h0 h1)
  have HVE : Hid (∀ e ∈ ofE es, e.v.length ≤ 1000) := fun e he => hvl e (ofE_mem he)
  have HLE : Hid ((ofE es).length ≤ 12) := Nat.le_trans (ofE_len es) hl
  clear hA hvl hf hvx hX hb0
  go_enter Tryd.func3, Tryd.ntmps3
  go_wp2_with fail
  rw [← HX.out]
  clear HX
  refine HT.out.mono ?_
  rintro _ w2 ⟨A2, c2, T, rfl, hc2, hI, hF⟩
  have HI := Lib.hid hI
  have HF2 := Lib.hid hF
  have HC2 := Lib.hid hc2
  obtain ⟨O, hO⟩ : ∃ O, O = ofE es := ⟨_, rfl⟩
  rw [← hO] at HI HF2 HVE HLE HC2 ⊢
  obtain ⟨pT, hpT⟩ := val_ptr nd hF.ms
  have HPT := Lib.hid hpT
  rw [hpT]
  have HH := Lib.hid (hash_in n w2 h0 h1)
  clear hc2 hI hF HT hO hpT
  go_wp2_with fail
  refine HH.out.mono ?_
  rintro _ w3 ⟨b, rfl, hbn, hH, hB⟩
  have HQ3 : Hid (Tf M X n A2 O T b 0 w3) := ⟨HF2.out.below nd hB, ⟨0, Nat.le_refl _, hH⟩, Nat.le_trans HF2.out.bel.size hbn⟩
  clear hH hbn hB HH HF2
  unfold ptr
  have lv := range_val (range_below HR0.out HQ3.out.fs.bel) HXO.out.key
  rw [Nat.zero_add] at lv
  have e2 : decide (200 < (x.v.length : Int)) = true := decide_eq_true (by have := HXL.out; omega)
  have e1 : decide (200 < x.v.length) = true := decide_eq_true HXL.out
  have HAL := Lib.hid (alive9_c nd fv pv w3 HQ3.out.fs.vars)
  go_wp2_with fail
  refine HAL.out.mono ?_
  rintro _ w4 ⟨rfl, hB⟩
  have HQ4 := Lib.hid (HQ3.out.below nd hB)
  clear hB HAL HQ3
  go_wp2_with fail
  go_ret
  exact ⟨rfl, HB0.out.trans (HQ4.out.fs.bel.mono HB0.out.size)⟩
set_option maxHeartbeats 4000000 in
set_option maxRecDepth 100000 in
/-- Other bits, or entries that are not few: alive. -/
theorem puts_out {M : World → Int → Tv → Prop} (nd : NdV M) (fv : FnV M) (pv : PtV M) (n : Int) (A : Option Addr) (c : Nat) (es : List En) (x : En) (W : World) (hA : EA W A es) (hvx : Vars W) (h : (n < 0 ∨ 256 < n) ∨ fewK (es.map En.ent) = false) :
    Calls Tryd.prog 3 #[.int .i64 n, .slice A es.length c, .agg (enC x).toArray] W (Aye W) := by
  obtain ⟨X, hX⟩ : ∃ X, X = W.alloc (.cells (enC x).toArray 27) := ⟨_, rfl⟩
  have hb0 : Below W.heap.size W X := by rw [hX]; exact (Below.refl _ _).alloc (Nat.le_refl _) _
  have HX := Lib.hid hX
  have HB0 := Lib.hid hb0
  have HVX := Lib.hid (hvx.below hb0)
  have HT := Lib.hid (tree_out n A c es X (hA.below hb0) h)
  have HAL := Lib.hid (fun w h => alive9_c nd fv pv w h)
  clear hA hvx h hX hb0
  go_enter Tryd.func3, Tryd.ntmps3
  go_wp2_with fail
  rw [← HX.out]
  clear HX
  refine HT.out.mono ?_
  rintro _ w2 ⟨rfl, hB⟩
  have HB := Lib.hid hB
  clear hB HT
  go_wp2_with fail
  refine (hash_any n w2).mono ?_
  rintro _ w3 ⟨p, rfl, hB⟩
  have HB3 := Lib.hid (HB.out.trans (hB.mono HB.out.size))
  clear hB HB
  go_wp2_with fail
  refine (HAL.out w3 (HVX.out.below HB3.out)).mono ?_
  rintro _ w4 ⟨rfl, hB⟩
  have HB4 := Lib.hid (HB3.out.trans (hB.mono HB3.out.size))
  clear hB
  go_wp2_with fail
  go_ret
  exact ⟨rfl, HB0.out.trans (HB4.out.mono HB0.out.size)⟩
end Go.Proofs.YtmgablpnggoabaaDoor

/- The walk of PutAll over contracts. -/
namespace Go.Proofs.YtmgablpnggoabaaDoor
open Go.RowKit

theorem foldE_take {es : List En} {k : Nat} {y : En} (m : List En) (h : es[k]? = some y) : (es.take (k + 1)).foldl putE m = putE ((es.take k).foldl putE m) y := by
  rw [take_some h, List.foldl_append]
  rfl
set_option maxHeartbeats 8000000 in
set_option maxRecDepth 100000 in
theorem refall9_c (A B : Option Addr) (c d : Nat) (m es : List En) (w : World) (hA : EA w A m) (hB : EA w B es) (hn : m.length + es.length ≤ 100000) :
    Calls Tryd.prog 18 #[.slice A m.length c, .slice B es.length d] w fun x w' => ∃ A' c', x = .returned (.slice A' (es.foldl putE m).length c') ∧ EA w' A' (es.foldl putE m) ∧ Below w.heap.size w w' := by
  have HA := Lib.hid hA
  have HBE := Lib.hid hB
  clear hA hB
  go_enter Tryd.func18, Tryd.ntmps18
  go_wp2_with fail
  go_loopg [0, 5] es.length (fun gg out i wr => ∃ (k : Nat) (A' : Option Addr) (c' : Nat), i = .int .i64 k ∧ k ≤ es.length ∧ es.length - k = gg ∧ out = .slice A' ((es.take k).foldl putE m).length c' ∧ EA wr A' ((es.take k).foldl putE m) ∧ Below w.heap.size w wr)
  case atStart => exact ⟨0, A, c, rfl, by omega, by omega, rfl, HA.out, Below.refl _ _⟩
  case round =>
    obtain ⟨k, A3, c3, rfl, hk, rfl, rfl, hE, hB⟩ := hrel
    have hl3 := foldE_len (es.take k) m
    rw [List.length_take] at hl3
    obtain ⟨O, hOO⟩ : ∃ O, O = (es.take k).foldl putE m := ⟨_, rfl⟩
    rw [← hOO] at hE hl3 ⊢
    have HOO := Lib.hid hOO
    have HB := Lib.hid hB
    have HE3 := Lib.hid hE
    have HL3 := Lib.hid hl3
    clear hB hE hOO hl3
    by_cases hlt : k < es.length
    · have hd : decide (k < es.length) = true := decide_eq_true hlt
      obtain ⟨y, hy⟩ : ∃ y, es[k]? = some y := ⟨_, List.getElem?_eq_getElem hlt⟩
      obtain ⟨hok, g, o, rfl, hr⟩ := HBE.out k y hy
      have HT : Hid ((es.take (k + 1)).foldl putE m = putE O y) := by
        show (es.take (k + 1)).foldl putE m = _
        rw [foldE_take m hy, ← HOO.out]
      have HOK := Lib.hid (hok.below HB.out)
      have hr1 := range_below hr HB.out
      have la : ∀ n, ldA 24 (wr.drewN n) (.pointer (some ⟨g, o + k * 33, none⟩)) = .ok (.value (.agg (bA y.k))) (wr.drewN n) := fun n => range_key (w := wr.drewN n) hr1 hok.key
      have lv : wr.cell? ⟨g, o + k * 33 + 32, none⟩ = some (.slice y.A y.v.length y.c) := range_val hr1 hok.key
      have p0 : (0 : Int) ≤ (k : Int) := by omega
      have p1 : (k : Int) < (es.length : Int) := by omega
      clear hok hr hr1 hy
      go_wp2_with fail
      refine wp_region_drawn_tail 11 (by kernel_rfl) (by kernel_rfl) ?_
      simp only [List.take_succ_cons, List.take_zero, List.drop_succ_cons, List.drop_zero]
      repeat (go_big_quiet_step (fail))
      refine wpQuiet_nil ?_
      rintro _ ⟨nq, rfl⟩
      go_wp2_with fail
      refine (put7_c A3 c3 O y (wr.drewN nq) (HE3.out.below (below_drewN (Below.refl _ _) nq)) (by have := HL3.out; omega) (HOK.out.below (below_drewN (Below.refl _ _) nq))).mono ?_
      rintro _ w2 ⟨v2, rfl, hO2, hB2⟩
      have hB3 : Below wr.heap.size wr w2 := (below_drewN (Below.refl _ _) nq).trans hB2
      obtain ⟨A5, c5, rfl, _, hE5⟩ := hO2.ea (fun e he => by
        rcases putE_mem he with rfl | h
        · exact HOK.out.below hB3
        · exact (HE3.out.mem e h).below hB3)
      have HE5 := Lib.hid hE5
      have HB2 := Lib.hid hB3
      clear hO2 hB2 hB3 hE5 la lv
      go_wp2_with fail
      go_roundg (es.length - (k + 1))
      case measure => omega
      case rel => exact ⟨k + 1, A5, c5, by go_num, by omega, rfl, by rw [HT.out], by rw [HT.out]; exact HE5.out, HB.out.trans (HB2.out.mono HB.out.size)⟩
    · obtain rfl : k = es.length := by omega
      have hd : decide (es.length < es.length) = false := decide_eq_false (by omega)
      have HOf : Hid (EA wr A3 (es.foldl putE m) ∧ O = es.foldl putE m) := by
        have h1 := HOO.out
        rw [List.take_length] at h1
        exact ⟨by rw [← h1]; exact HE3.out, h1⟩
      clear HOO
      go_wp2_with fail
      go_ret
      have hO := HOf.out.2
      subst hO
      exact ⟨A3, c3, rfl, HOf.out.1, HB.out⟩
set_option maxHeartbeats 16000000 in
set_option maxRecDepth 100000 in
theorem putall_in {M : World → Int → Tv → Prop} (nd : NdV M) (fv : FnV M) (pv : PtV M) (n : Int) (A : Option Addr) (c : Nat) (es : List En) (B : Option Addr) (d : Nat) (ms : List En) (W : World) (hA : EA W A es) (hl : es.length ≤ 12) (hvl : ∀ e ∈ es, e.v.length ≤ 1000) (hf : fewK (es.map En.ent) = true) (hvx : Vars W) (h0 : 0 ≤ n) (h1 : n ≤ 256) (hB : EA W B ms) (hfm : fewK (ms.map En.ent) = true) :
    Calls Tryd.prog 4 #[.int .i64 n, .slice A es.length c, .slice B ms.length d] W (Aye W) := by
  have HB0 : Hid (Below W.heap.size W W) := Below.refl _ _
  have HFW := Lib.hid (fun w h => few7_c B d ms w h)
  rw [hfm] at HFW
  have HBM := Lib.hid hB
  clear hB
  have HT := Lib.hid (tree_in nd n A c es W hA hl hvl hf hvx h0 h1)
  have HVE : Hid (∀ e ∈ ofE es, e.v.length ≤ 1000) := fun e he => hvl e (ofE_mem he)
  have HLE : Hid ((ofE es).length ≤ 12) := Nat.le_trans (ofE_len es) hl
  clear hA hvl hf hvx
  go_enter Tryd.func4, Tryd.ntmps4
  go_wp2_with fail
  refine HT.out.mono ?_
  rintro _ w2 ⟨A2, c2, T, rfl, hc2, hI, hF⟩
  have HI := Lib.hid hI
  have HF2 := Lib.hid hF
  have HC2 := Lib.hid hc2
  obtain ⟨O, hO⟩ : ∃ O, O = ofE es := ⟨_, rfl⟩
  rw [← hO] at HI HF2 HVE HLE HC2 ⊢
  obtain ⟨pT, hpT⟩ := val_ptr nd hF.ms
  have HPT := Lib.hid hpT
  rw [hpT]
  have HH := Lib.hid (hash_in n w2 h0 h1)
  clear hc2 hI hF HT hO hpT
  go_wp2_with fail
  refine HH.out.mono ?_
  rintro _ w3 ⟨b, rfl, hbn, hH, hB⟩
  have HQ3 : Hid (Tf M W n A2 O T b 0 w3) := ⟨HF2.out.below nd hB, ⟨0, Nat.le_refl _, hH⟩, Nat.le_trans HF2.out.bel.size hbn⟩
  clear hH hbn hB HH HF2
  unfold ptr
  go_wp2_with fail
  refine (HFW.out w3 (HBM.out.below HQ3.out.fs.bel)).mono ?_
  rintro _ _ ⟨rfl, rfl⟩
  have HAL := Lib.hid (alive9_c nd fv pv w3 HQ3.out.fs.vars)
  go_wp2_with fail
  refine HAL.out.mono ?_
  rintro _ w4 ⟨rfl, hB⟩
  have HQ4 := Lib.hid (HQ3.out.below nd hB)
  clear hB HAL HQ3
  obtain ⟨m4, hm4, hh4⟩ := HQ4.out.hs
  have HML : Hid (ms.length ≤ 12) := by show _ ≤ _; have := few_len hfm; rwa [List.length_map] at this
  have HMV : Hid (∀ e ∈ ms, e.v.length ≤ 1000) := fun e he => Nat.le_trans (few_val hfm e.ent (List.mem_map.2 ⟨e, he, rfl⟩)) (by decide)
  have HM4 := Lib.hid hm4
  have HP := Lib.hid (pv.all w4 b n m4 _ T B d ms hh4 (by omega) HQ4.out.fs.vars HQ4.out.fs.ms HI.out (by rw [List.length_map]; have := HLE.out; omega) (HBM.out.below HQ4.out.fs.bel) (by have := HML.out; omega) HMV.out)
  rw [HPT.out] at HP
  unfold ptr at HP
  clear hm4 hh4 hfm HFW
  go_wp2_with fail
  refine HP.out.mono ?_
  rintro _ w5 ⟨T', rfl, hI, hm⟩
  have HI' := Lib.hid hI
  have HM5 := Lib.hid hm.ms
  have HQ5 := Lib.hid (HQ4.out.made nd hm.keep hm.hs)
  obtain ⟨pT', hpT'⟩ := val_ptr nd hm.ms
  have HPT' := Lib.hid hpT'
  rw [hpT']
  clear hI hm hpT' HP HQ4
  go_wp2_with fail
  refine (refall9_c A2 B c2 d O ms w5 HQ5.out.fs.ea (HBM.out.below HQ5.out.fs.bel) (by have := HLE.out; have := HML.out; omega)).mono ?_
  rintro _ w6 ⟨A6, c6, rfl, hE, hB⟩
  have HQ6 := Lib.hid (HQ5.out.below nd hB)
  have HM6 := Lib.hid (nd.below HM5.out hB)
  obtain ⟨m6, hm6, hh6⟩ := HQ6.out.hs
  have HIS := Lib.hid (is_c nd fv w6 b n m6 T' A6 c6 (ms.foldl putE O) hh6 (by have := HM4.out; have := HML.out; omega) HQ6.out.fs.vars HM6.out (by rw [foldE_ent]; exact HI'.out) hE (by have := foldE_len ms O; have := HLE.out; have := HML.out; omega) (fun e he => by
    rcases foldE_mem ms O e he with h | h
    · exact HVE.out e h
    · exact HMV.out e h))
  rw [HPT'.out] at HIS
  unfold ptr at HIS
  clear hE hB hm6 hh6 HQ5 HM5
  go_wp2_with fail
  refine HIS.out.mono ?_
  rintro _ w7 ⟨rfl, c7, hc7, hh7, hk7⟩
  have HQ7 := Lib.hid (HQ6.out.made nd hk7 ⟨c7, Nat.le_refl _, hh7⟩)
  clear hc7 hh7 hk7 HIS HQ6 HM6
  go_wp2_with fail
  go_ret
  exact ⟨rfl, HB0.out.trans (HQ7.out.fs.bel.mono HB0.out.size)⟩
set_option maxHeartbeats 16000000 in
set_option maxRecDepth 100000 in
theorem putall_many {M : World → Int → Tv → Prop} (nd : NdV M) (fv : FnV M) (pv : PtV M) (n : Int) (A : Option Addr) (c : Nat) (es : List En) (B : Option Addr) (d : Nat) (ms : List En) (W : World) (hA : EA W A es) (hl : es.length ≤ 12) (hvl : ∀ e ∈ es, e.v.length ≤ 1000) (hf : fewK (es.map En.ent) = true) (hvx : Vars W) (h0 : 0 ≤ n) (h1 : n ≤ 256) (hB : EA W B ms) (hfm : fewK (ms.map En.ent) = false) :
    Calls Tryd.prog 4 #[.int .i64 n, .slice A es.length c, .slice B ms.length d] W (Aye W) := by
  have HB0 : Hid (Below W.heap.size W W) := Below.refl _ _
  have HFW := Lib.hid (fun w h => few7_c B d ms w h)
  rw [hfm] at HFW
  have HBM := Lib.hid hB
  clear hB
  have HT := Lib.hid (tree_in nd n A c es W hA hl hvl hf hvx h0 h1)
  have HVE : Hid (∀ e ∈ ofE es, e.v.length ≤ 1000) := fun e he => hvl e (ofE_mem he)
  have HLE : Hid ((ofE es).length ≤ 12) := Nat.le_trans (ofE_len es) hl
  clear hA hvl hf hvx
  go_enter Tryd.func4, Tryd.ntmps4
  go_wp2_with fail
  refine HT.out.mono ?_
  rintro _ w2 ⟨A2, c2, T, rfl, hc2, hI, hF⟩
  have HI := Lib.hid hI
  have HF2 := Lib.hid hF
  have HC2 := Lib.hid hc2
  obtain ⟨O, hO⟩ : ∃ O, O = ofE es := ⟨_, rfl⟩
  rw [← hO] at HI HF2 HVE HLE HC2 ⊢
  obtain ⟨pT, hpT⟩ := val_ptr nd hF.ms
  have HPT := Lib.hid hpT
  rw [hpT]
  have HH := Lib.hid (hash_in n w2 h0 h1)
  clear hc2 hI hF HT hO hpT
  go_wp2_with fail
  refine HH.out.mono ?_
  rintro _ w3 ⟨b, rfl, hbn, hH, hB⟩
  have HQ3 : Hid (Tf M W n A2 O T b 0 w3) := ⟨HF2.out.below nd hB, ⟨0, Nat.le_refl _, hH⟩, Nat.le_trans HF2.out.bel.size hbn⟩
  clear hH hbn hB HH HF2
  unfold ptr
  go_wp2_with fail
  refine (HFW.out w3 (HBM.out.below HQ3.out.fs.bel)).mono ?_
  rintro _ _ ⟨rfl, rfl⟩
  have HAL := Lib.hid (alive9_c nd fv pv w3 HQ3.out.fs.vars)
  go_wp2_with fail
  refine HAL.out.mono ?_
  rintro _ w4 ⟨rfl, hB⟩
  have HQ4 := Lib.hid (HQ3.out.below nd hB)
  clear hB HAL HQ3
  go_wp2_with fail
  go_ret
  exact ⟨rfl, HB0.out.trans (HQ4.out.fs.bel.mono HB0.out.size)⟩
set_option maxHeartbeats 4000000 in
set_option maxRecDepth 100000 in
/-- Other bits, or entries that are not few: alive. -/
theorem putall_out {M : World → Int → Tv → Prop} (nd : NdV M) (fv : FnV M) (pv : PtV M) (n : Int) (A : Option Addr) (c : Nat) (es : List En) (B : Option Addr) (d : Nat) (ms : List En) (W : World) (hA : EA W A es) (hvx : Vars W) (h : (n < 0 ∨ 256 < n) ∨ fewK (es.map En.ent) = false) :
    Calls Tryd.prog 4 #[.int .i64 n, .slice A es.length c, .slice B ms.length d] W (Aye W) := by
  have HB0 : Hid (Below W.heap.size W W) := Below.refl _ _
  have HVX := Lib.hid hvx
  have HT := Lib.hid (tree_out n A c es W hA h)
  have HAL := Lib.hid (fun w h => alive9_c nd fv pv w h)
  clear hA hvx h
  go_enter Tryd.func4, Tryd.ntmps4
  go_wp2_with fail
  refine HT.out.mono ?_
  rintro _ w2 ⟨rfl, hB⟩
  have HB := Lib.hid hB
  clear hB HT
  go_wp2_with fail
  refine (hash_any n w2).mono ?_
  rintro _ w3 ⟨p, rfl, hB⟩
  have HB3 := Lib.hid (HB.out.trans (hB.mono HB.out.size))
  clear hB HB
  go_wp2_with fail
  refine (HAL.out w3 (HVX.out.below HB3.out)).mono ?_
  rintro _ w4 ⟨rfl, hB⟩
  have HB4 := Lib.hid (HB3.out.trans (hB.mono HB3.out.size))
  clear hB
  go_wp2_with fail
  go_ret
  exact ⟨rfl, HB0.out.trans (HB4.out.mono HB0.out.size)⟩
end Go.Proofs.YtmgablpnggoabaaDoor

/- Ways and siblings where an entry is put in: plain facts. -/
namespace Go.Proofs.YtmgablpnggoabaaDoor
open Go.RowKit

theorem dK_perm {l m : List Ent} (h : l.Perm m) (k : List UInt8) : ∀ i, (dK l k i).Perm (dK m k i)
  | 0 => h
  | i + 1 => partK_perm (dK_perm h k i) _ _
theorem dK_put (l : List Ent) (e : Ent) : ∀ i, dK (e :: rmK l e.k) e.k i = e :: rmK (dK l e.k i) e.k
  | 0 => rfl
  | i + 1 => by
    show partK (dK (e :: rmK l e.k) e.k i) i (bitK e.k i) = e :: rmK (partK (dK l e.k i) i (bitK e.k i)) e.k
    rw [dK_put l e i, ← rmK_part]
    simp [partK]
theorem dK_putK (l : List Ent) (e : Ent) (i : Nat) : (dK (putK l e) e.k i).Perm (e :: rmK (dK l e.k i) e.k) := by
  have := dK_perm (putK_perm l e) e.k i
  rwa [dK_put] at this
theorem rmK_one {l : List Ent} (h : l.Pairwise (fun a b => a.k ≠ b.k)) (k : List UInt8) : l.length ≤ (rmK l k).length + 1 := by
  induction h with
  | nil => simp
  | @cons a r ha _ ih =>
    by_cases hk : a.k = k
    · have e : rmK r k = r := by
        refine List.filter_eq_self.2 fun x hx => ?_
        have := ha x hx
        have : x.k ≠ k := fun h => this (by rw [hk, h])
        simp [this]
      have e2 : rmK (a :: r) k = rmK r k := by simp [rmK, hk]
      rw [e2, e]
      simp
    · have e2 : rmK (a :: r) k = a :: rmK r k := by simp [rmK, hk]
      rw [e2]
      simp
      exact ih
theorem dK_more {l : List Ent} (hs : Sep 0 l) (e : Ent) {i : Nat} (hi : i ≤ 256) : (dK l e.k i).length ≤ (dK (putK l e) e.k i).length := by
  rw [(dK_putK l e i).length_eq, List.length_cons]
  exact rmK_one (dK_sep hs e.k i hi).ne e.k
theorem sibK_put (l : List Ent) (e : Ent) {i : Nat} (hi : i < 256) : (sibK (putK l e) e.k i).Perm (sibK l e.k i) := by
  have hb : bitK e.k i ≠ 1 - bitK e.k i := by rcases bitK_01 e.k i hi with h | h <;> rw [h] <;> decide
  have h1 := partK_perm (dK_putK l e i) i (1 - bitK e.k i)
  have h2 : partK (e :: rmK (dK l e.k i) e.k) i (1 - bitK e.k i) = partK (rmK (dK l e.k i) e.k) i (1 - bitK e.k i) := by simp [partK, hb]
  rw [h2, rmK_part, rmK_other _ _ hb] at h1
  exact h1
/-- The siblings on the way of a key that is put in: no fewer, and above the old end the same. -/
theorem sibs_put {l : List Ent} {e : Ent} {T T' : Tv} (h : IsMap l T) (h' : IsMap (putK l e) T') : (T.sibs e.k 0).length ≤ (T'.sibs e.k 0).length ∧ ∀ (i : Nat) (S S' : Tv), (T.sibs e.k 0)[i]? = some S → (T'.sibs e.k 0)[i]? = some S' → S.tr = S'.tr := by
  have a := h.at e.k
  have a' := h'.at e.k
  obtain ⟨_, _, f3⟩ := At.fin h.sep T 0 a
  obtain ⟨g1, g2, _⟩ := At.fin h'.sep T' 0 a'
  have hd := sibs_len e.k T 0
  have hd' := sibs_len e.k T' 0
  have hle := dep_le h.sep a
  constructor
  · rcases Nat.lt_or_ge (T'.dep e.k 0) (T.dep e.k 0) with hlt | hge
    · have h2 := f3 _ (Nat.zero_le _) hlt
      have h1 := At.few h'.sep g1 g2
      have h3 := dK_more h.sep e (i := T'.dep e.k 0) (by omega)
      omega
    · omega
  · intro i S S' hS hS'
    obtain ⟨h1, h2⟩ := At.sib h.sep T 0 a i S hS
    obtain ⟨_, h4⟩ := At.sib h'.sep T' 0 a' i S' hS'
    rw [Nat.zero_add] at h1 h2 h4
    rw [h2, h4]
    refine (growT_perm _ _ _ _ (sibK_sep h'.sep e.k i h1) ?_ (sibK_put l e h1)).symm
    exact .inr ⟨by omega, by omega, by omega⟩
theorem putK_lenT {l : List Ent} {e : Ent} {T T' : Tv} (h : IsMap l T) (h' : IsMap (putK l e) T') : lenT T.tr ≤ lenT T'.tr ∧ lenT T'.tr ≤ lenT T.tr + 1 := by
  rw [h.len, h'.len, (putK_perm l e).length_eq, List.length_cons]
  have := rmK_one h.sep.ne e.k
  have := rmK_len l e.k
  omega
end Go.Proofs.YtmgablpnggoabaaDoor

/- The walk of PutShares over contracts (its drawn regions by program). -/
namespace Go.Proofs.YtmgablpnggoabaaDoor
open Go.RowKit

set_option maxHeartbeats 16000000 in
set_option maxRecDepth 100000 in
theorem shares_in {M : World → Int → Tv → Prop} (nd : NdV M) (fv : FnV M) (pv : PtV M) (n : Int) (A : Option Addr) (c : Nat) (es : List En) (x : En) (W : World) (hA : EA W A es) (hl : es.length ≤ 12) (hvl : ∀ e ∈ es, e.v.length ≤ 1000) (hf : fewK (es.map En.ent) = true) (hvx : Vars W) (h0 : 0 ≤ n) (h1 : n ≤ 256) (hx : EnOk W x) (hxl : x.v.length ≤ 200) :
    Calls Tryd.prog 8 #[.int .i64 n, .slice A es.length c, .agg (enC x).toArray] W (Aye W) := by
  obtain ⟨X, hX⟩ : ∃ X, X = W.alloc (.cells (enC x).toArray 27) := ⟨_, rfl⟩
  have hb0 : Below W.heap.size W X := by rw [hX]; exact (Below.refl _ _).alloc (Nat.le_refl _) _
  have hr0 : X.rangeAt W.heap.size 0 (enC x) := by rw [hX]; exact ent_made W x _
  have HR0 := Lib.hid hr0
  have HXO := Lib.hid (hx.below hb0)
  have HXL := Lib.hid hxl
  clear hr0 hx hxl
  have HX := Lib.hid hX
  have HB0 := Lib.hid hb0
  have HT := Lib.hid (tree_in nd n A c es X (hA.below hb0) hl hvl hf (hvx.below hb0) h0 h1)
  have HVE : Hid (∀ e ∈ ofE es, e.v.length ≤ 1000) := fun e he => hvl e (ofE_mem he)
  have HLE : Hid ((ofE es).length ≤ 12) := Nat.le_trans (ofE_len es) hl
  clear hA hvl hf hvx hX hb0
  go_enter Tryd.func8, Tryd.ntmps8
  go_wp2_with fail
  rw [← HX.out]
  clear HX
  refine HT.out.mono ?_
  rintro _ w2 ⟨A2, c2, T, rfl, hc2, hI, hF⟩
  have HI := Lib.hid hI
  have HF2 := Lib.hid hF
  have HC2 := Lib.hid hc2
  obtain ⟨O, hO⟩ : ∃ O, O = ofE es := ⟨_, rfl⟩
  rw [← hO] at HI HF2 HVE HLE HC2 ⊢
  obtain ⟨pT, hpT⟩ := val_ptr nd hF.ms
  have HPT := Lib.hid hpT
  rw [hpT]
  have HH := Lib.hid (hash_in n w2 h0 h1)
  clear hc2 hI hF HT hO hpT
  go_wp2_with fail
  refine HH.out.mono ?_
  rintro _ w3 ⟨b, rfl, hbn, hH, hB⟩
  have HQ3 : Hid (Tf M X n A2 O T b 0 w3) := ⟨HF2.out.below nd hB, ⟨0, Nat.le_refl _, hH⟩, Nat.le_trans HF2.out.bel.size hbn⟩
  clear hH hbn hB HH HF2
  unfold ptr
  have lv := range_val (range_below HR0.out HQ3.out.fs.bel) HXO.out.key
  rw [Nat.zero_add] at lv
  have e2 : decide (200 < (x.v.length : Int)) = false := decide_eq_false (by have := HXL.out; omega)
  have e1 : decide (200 < x.v.length) = false := decide_eq_false (by have := HXL.out; omega)
  have le := range_ent (range_below HR0.out HQ3.out.fs.bel) HXO.out.key
  obtain ⟨m4, hm4, hh4⟩ := HQ3.out.hs
  have HP := Lib.hid (pv.put w3 b n m4 _ T x hh4 (by omega) HQ3.out.fs.vars HQ3.out.fs.ms HI.out (by rw [List.length_map]; have := HLE.out; omega) (HXO.out.below HQ3.out.fs.bel) (by have := HXL.out; omega))
  rw [HPT.out] at HP
  unfold ptr at HP
  have HM4 := Lib.hid hm4
  clear hm4 hh4
  go_wp2_with fail
  refine HP.out.mono ?_
  rintro _ w5 ⟨T', rfl, hI, hm⟩
  have HI' := Lib.hid hI
  have HM5 := Lib.hid hm.ms
  have HQ5 : Hid (Tf M X n A2 O T b 2000 w5) := HQ3.out.made nd hm.keep (by obtain ⟨c5, h5, h6⟩ := hm.hs; exact ⟨c5, by have := HM4.out; omega, h6⟩)
  obtain ⟨pT', hpT'⟩ := val_ptr nd hm.ms
  have HPT' := Lib.hid hpT'
  have HSH := Lib.hid (sibs_put HI.out hI)
  have HLT := Lib.hid (putK_lenT HI.out hI)
  rw [hpT']
  clear hI hm hpT' HP HQ3 lv le
  have LK : Hid (∀ q, Below w5.heap.size w5 q → ldA 24 q (.pointer (some ⟨W.heap.size, 0, none⟩)) = .ok (.value (.agg (bA x.k))) q) := fun q h => range_key (range_below HR0.out (HQ5.out.fs.bel.trans (h.mono HQ5.out.fs.bel.size))) HXO.out.key
  have HS1 : Hid (∀ q, Below w5.heap.size w5 q → Calls Tryd.prog 27 #[.pointer pT, .agg (bA x.k)] q fun e w' => ∃ A c, e = .returned (.slice A (T.sibs x.k 0).length c) ∧ PA w' A (T.sibs x.k 0) ∧ Below q.heap.size q w') := fun q h => by
    have := fv.siblings q n _ T x.k (nd.below HQ5.out.fs.ms h) HI.out HXO.out.key
    rwa [HPT.out] at this
  have HS2 : Hid (∀ q, Below w5.heap.size w5 q → Calls Tryd.prog 27 #[.pointer pT', .agg (bA x.k)] q fun e w' => ∃ A c, e = .returned (.slice A (T'.sibs x.k 0).length c) ∧ PA w' A (T'.sibs x.k 0) ∧ Below q.heap.size q w') := fun q h => by
    have := fv.siblings q n _ T' x.k (nd.below HM5.out h) HI'.out HXO.out.key
    rwa [HPT'.out] at this
  obtain ⟨s1, hs1⟩ : ∃ s, s = T.sibs x.k 0 := ⟨_, rfl⟩
  obtain ⟨s2, hs2⟩ : ∃ s, s = T'.sibs x.k 0 := ⟨_, rfl⟩
  rw [show x.ent.k = x.k from rfl, ← hs1, ← hs2] at HSH
  rw [← hs1] at HS1
  rw [← hs2] at HS2
  have HMS1 : Hid (∀ q, M q n T → ∀ S ∈ s1, M q n S) := fun q h => by rw [hs1]; exact ms_sibs nd x.k T 0 h
  have HMS2 : Hid (∀ q, M q n T' → ∀ S ∈ s2, M q n S) := fun q h => by rw [hs2]; exact ms_sibs nd x.k T' 0 h
  have HL256 : Hid (s1.length ≤ 256) := by
    show _ ≤ _
    rw [hs1]
    have h1 := sibs_len x.k T 0
    have h2 := dep_le HI.out.sep (HI.out.at x.k)
    omega
  clear hs1 hs2
  go_wp2_with fail
  refine wp_region_held_drew (S := fun w' => Below w5.heap.size w5 w') (by kernel_rfl) ((Below.refl _ _).drew) (fun hHeld => ?_)
  have hb0 : Below w5.heap.size w5 w5.drew := (Below.refl _ _).drew
  refine wpAnyH_take (i := 0) (oi := { dst := some 37, op := .move (.tmp 8), type := _, pos := _, after := _, guard := _ }) (v := ?_) rfl (by kernel_rfl) (by kernel_rfl) (by kernel_rfl) (fun _ _ _ h => h) (Or.inl ⟨by rfl, ?_⟩) (by assumption) ?_
  rotate_left 1
  · intro v hSv
    clear hSv
    go_simp
    try with_reducible rfl
  try simp only [Act.put, List.setIfInBounds_toArray, List.set_cons_zero, List.set_cons_succ]
  refine wpAnyH_take (i := 1) (oi := { dst := some 38, op := .fieldAddr _ (.tmp 5) 0, type := _, pos := _, after := _, guard := _ }) (v := ?_) rfl (by kernel_rfl) (by kernel_rfl) (by kernel_rfl) (fun _ _ _ h => h) (Or.inl ⟨by rfl, ?_⟩) (by assumption) ?_
  rotate_left 1
  · intro v hSv
    clear hSv
    go_simp
    try with_reducible rfl
  try simp only [Act.put, List.setIfInBounds_toArray, List.set_cons_zero, List.set_cons_succ]
  refine wpAnyH_take (i := 2) (oi := { dst := some 39, op := .load _ (.tmp 38), type := _, pos := _, after := _, guard := _ }) (v := ?_) rfl (by kernel_rfl) (by kernel_rfl) (by kernel_rfl) (fun _ _ _ h => h) (Or.inl ⟨by rfl, ?_⟩) (by assumption) ?_
  rotate_left 1
  · intro v hSv
    have hv1 := LK.out v hSv
    clear hSv
    go_simp
    try with_reducible rfl
  try simp only [Act.put, List.setIfInBounds_toArray, List.set_cons_zero, List.set_cons_succ]
  refine wpAnyH_take (i := 4) (oi := { dst := some 41, op := .move (.tmp 11), type := _, pos := _, after := _, guard := _ }) (v := ?_) rfl (by kernel_rfl) (by kernel_rfl) (by kernel_rfl) (fun _ _ _ h => h) (Or.inl ⟨by rfl, ?_⟩) (by assumption) ?_
  rotate_left 1
  · intro v hSv
    clear hSv
    go_simp
    try with_reducible rfl
  try simp only [Act.put, List.setIfInBounds_toArray, List.set_cons_zero, List.set_cons_succ]
  refine wpAnyH_take (i := 5) (oi := { dst := some 42, op := .fieldAddr _ (.tmp 5) 0, type := _, pos := _, after := _, guard := _ }) (v := ?_) rfl (by kernel_rfl) (by kernel_rfl) (by kernel_rfl) (fun _ _ _ h => h) (Or.inl ⟨by rfl, ?_⟩) (by assumption) ?_
  rotate_left 1
  · intro v hSv
    clear hSv
    go_simp
    try with_reducible rfl
  try simp only [Act.put, List.setIfInBounds_toArray, List.set_cons_zero, List.set_cons_succ]
  refine wpAnyH_take (i := 6) (oi := { dst := some 43, op := .load _ (.tmp 42), type := _, pos := _, after := _, guard := _ }) (v := ?_) rfl (by kernel_rfl) (by kernel_rfl) (by kernel_rfl) (fun _ _ _ h => h) (Or.inl ⟨by rfl, ?_⟩) (by assumption) ?_
  rotate_left 1
  · intro v hSv
    have hv1 := LK.out v hSv
    clear hSv
    go_simp
    try with_reducible rfl
  try simp only [Act.put, List.setIfInBounds_toArray, List.set_cons_zero, List.set_cons_succ]
  refine wpAnyH_ready (rs := [3]) (by kernel_rfl) (by simp) ?_
  refine AllReadyH.cons (o := { dst := some 40, op := .call _, type := _, pos := _, after := _, guard := _ }) rfl (fun K hK => ?_) AllReadyH.nil
  go_simp
  refine (HS1.out w5.drew (hb0)).mono ?_
  rintro e y1 ⟨As, cs, rfl, hPs, hb⟩
  have hb1 : Below w5.heap.size w5 y1 := keeps (hb0) hb
  have HPs := Lib.hid hPs
  clear hPs
  clear hb
  go_wp2_with fail
  refine hK.out _ _ (hb1) (fun hHeld => ?_)
  clear hK K
  try simp only [Act.put, List.setIfInBounds_toArray, List.set_cons_zero, List.set_cons_succ]
  refine wpAnyH_ready (rs := [7]) (by kernel_rfl) (by simp) ?_
  refine AllReadyH.cons (o := { dst := some 44, op := .call _, type := _, pos := _, after := _, guard := _ }) rfl (fun K hK => ?_) AllReadyH.nil
  go_simp
  refine (HS2.out y1 (hb1)).mono ?_
  rintro e y2 ⟨At, ct, rfl, hPt, hb⟩
  have hb2 : Below w5.heap.size w5 y2 := keeps (hb1) hb
  have HPt := Lib.hid hPt
  have HPv := Lib.hid (HPs.out.below hb)
  clear hPt HPs
  clear hb
  go_wp2_with fail
  refine hK.out _ _ (hb2) (fun hHeld => ?_)
  clear hK K
  try simp only [Act.put, List.setIfInBounds_toArray, List.set_cons_zero, List.set_cons_succ]
  refine wpAnyH_take (i := 8) (oi := { dst := some 12, op := .assign (.tmp 40), type := _, pos := _, after := _, guard := _ }) (v := ?_) rfl (by kernel_rfl) (by kernel_rfl) (by kernel_rfl) (fun _ _ _ h => h) (Or.inl ⟨by rfl, ?_⟩) (by assumption) ?_
  rotate_left 1
  · intro v hSv
    clear hSv
    go_simp
    try with_reducible rfl
  try simp only [Act.put, List.setIfInBounds_toArray, List.set_cons_zero, List.set_cons_succ]
  refine wpAnyH_take (i := 9) (oi := { dst := some 13, op := .assign (.tmp 44), type := _, pos := _, after := _, guard := _ }) (v := ?_) rfl (by kernel_rfl) (by kernel_rfl) (by kernel_rfl) (fun _ _ _ h => h) (Or.inl ⟨by rfl, ?_⟩) (by assumption) ?_
  rotate_left 1
  · intro v hSv
    clear hSv
    go_simp
    try with_reducible rfl
  try simp only [Act.put, List.setIfInBounds_toArray, List.set_cons_zero, List.set_cons_succ]
  refine wpAnyH_done (by kernel_rfl) ?_ _
  have HQ6 := Lib.hid (HQ5.out.below nd (hb2))
  have HM6 := Lib.hid (nd.below HM5.out (hb2))
  clear LK HS1 HS2
  obtain ⟨w6, hw6⟩ : ∃ w6, w6 = y2 := ⟨_, rfl⟩
  rw [← hw6] at HQ6 HM6 HPt HPv ⊢
  clear hw6
  have dl : decide (s2.length < s1.length) = false := decide_eq_false (by have := HSH.out.1; omega)
  have dl2 : decide ((s2.length : Int) < (s1.length : Int)) = false := decide_eq_false (by have := HSH.out.1; omega)
  go_wp2_with fail
  go_loopg [14, 52] s1.length (fun gg _ i wr => ∃ k : Nat, i = .int .i64 k ∧ k ≤ s1.length ∧ s1.length - k = gg ∧ Hid (Tf M X n A2 O T b (2000 + 2 * k) wr) ∧ Hid (Keep (fun i => i = b) w6 wr))
  case atStart => exact ⟨0, rfl, by omega, by omega, HQ6.out, Keep.refl _ _⟩
  case round =>
    obtain ⟨k, rfl, hk, rfl, HQr, HKr⟩ := hrel
    have hb6 : ∃ c0, Hs w6 b n c0 := by obtain ⟨c0, _, h⟩ := HQ6.out.hs; exact ⟨c0, h⟩
    obtain ⟨c0, hh6⟩ := hb6
    have hM' : M wr n T' := nd.hs HM6.out hh6 HKr.out
    by_cases hlt : k < s1.length
    · have hd : decide (k < s1.length) = true := decide_eq_true hlt
      obtain ⟨S, hS⟩ : ∃ S, s1[k]? = some S := ⟨_, List.getElem?_eq_getElem hlt⟩
      have hlt2 : k < s2.length := by have := HSH.out.1; omega
      obtain ⟨S', hS'⟩ : ∃ S, s2[k]? = some S := ⟨_, List.getElem?_eq_getElem hlt2⟩
      have hMS := HMS1.out wr HQr.out.fs.ms S (List.mem_of_getElem? hS)
      have hMS' := HMS2.out wr hM' S' (List.mem_of_getElem? hS')
      have htr := HSH.out.2 k S S' hS hS'
      obtain ⟨pS, hpS⟩ := val_ptr nd hMS
      obtain ⟨pS', hpS'⟩ := val_ptr nd hMS'
      obtain ⟨g, hg⟩ : ∃ g, g = digT n S.tr := ⟨_, rfl⟩
      have hgl : g.length = 32 := by rw [hg]; exact digT_len _ _
      have hpa := Hs.pa hh6 HPv.out (fun Q hQ => val_ptr nd (HMS1.out w6 HQ6.out.fs.ms Q hQ)) HKr.out
      have hpb := Hs.pa hh6 HPt.out (fun Q hQ => val_ptr nd (HMS2.out w6 HM6.out Q hQ)) HKr.out
      obtain ⟨m0, hm0, hh0⟩ := HQr.out.hs
      have hka : ∀ q, Keep (fun i => i = b) wr q → PA q As s1 ∧ PA q At s2 := fun q h => ⟨Hs.pa hh0 hpa (fun Q hQ => val_ptr nd (HMS1.out wr HQr.out.fs.ms Q hQ)) h, Hs.pa hh0 hpb (fun Q hQ => val_ptr nd (HMS2.out wr hM' Q hQ)) h⟩
      obtain ⟨ga, oa, rfl, _⟩ := hpa k S hS
      obtain ⟨gb, ob, rfl, _⟩ := hpb k S' hS'
      have LA : Hid (∀ q, Keep (fun i => i = b) wr q → q.cell? ⟨ga, oa + k, none⟩ = some (.pointer pS)) := fun q h => by
        obtain ⟨g1, o1, e1, h1⟩ := (hka q h).1 k S hS
        cases e1
        rw [← hpS]
        exact h1
      have LB : Hid (∀ q, Keep (fun i => i = b) wr q → q.cell? ⟨gb, ob + k, none⟩ = some (.pointer pS')) := fun q h => by
        obtain ⟨g1, o1, e1, h1⟩ := (hka q h).2 k S' hS'
        cases e1
        rw [← hpS']
        exact h1
      have HD1 : Hid (∀ q c', Keep (fun i => i = b) wr q → Hs q b n c' → c' ≤ 10000 → Calls Tryd.prog 19 #[.pointer (some ⟨b, 0, none⟩), .pointer pS] q fun e w' => ∃ c'', e = .returned (.agg (bA g)) ∧ c'' ≤ c' + 1 ∧ Hs w' b n c'' ∧ Keep (fun i => i = b) q w') := fun q c' h h2 h3 => by
        have := nd.digest q b n c' S h2 (by omega) (HQr.out.fs.vars.hs hh0 h) (nd.hs hMS hh0 h)
        rw [hpS, ← hg] at this
        exact this.mono fun e w' ⟨c'', a1, a2, _, a4, a5⟩ => ⟨c'', a1, a2, a4, a5⟩
      have HD2 : Hid (∀ q c', Keep (fun i => i = b) wr q → Hs q b n c' → c' ≤ 10000 → Calls Tryd.prog 19 #[.pointer (some ⟨b, 0, none⟩), .pointer pS'] q fun e w' => ∃ c'', e = .returned (.agg (bA g)) ∧ c'' ≤ c' + 1 ∧ Hs w' b n c'' ∧ Keep (fun i => i = b) q w') := fun q c' h h2 h3 => by
        have := nd.digest q b n c' S' h2 (by omega) (HQr.out.fs.vars.hs hh0 h) (nd.hs hMS' hh0 h)
        rw [hpS', ← htr, ← hg] at this
        exact this.mono fun e w' ⟨c'', a1, a2, _, a4, a5⟩ => ⟨c'', a1, a2, a4, a5⟩
      have nq : ∀ x y w, eqA .neq 44 x y w (.agg (bA g)) (.agg (bA g)) = .ok (.value (.bool false)) w := fun x y w => by rw [neDig g g hgl hgl, decide_eq_true rfl]; rfl
      have hk256 : k < 256 := by have := HL256.out; omega
      have p0 : (0 : Int) ≤ (k : Int) := by omega
      have p1 : (k : Int) < (s1.length : Int) := by omega
      have p2 : (k : Int) < (s2.length : Int) := by omega
      clear hS hS' hMS hMS' htr hpS hpS' hg hgl hpa hpb hka hM' hh6
      go_wp2_with fail
      refine wp_region_held_drew (S := fun w' => Keep (fun i => i = b) wr w') (by kernel_rfl) ((Keep.refl _ _).drew) (fun hHeld => ?_)
      have hb0 : Keep (fun i => i = b) wr wr.drew := (Keep.refl _ _).drew
      refine wpAnyH_take (i := 0) (oi := { dst := some 55, op := .move (.tmp 10), type := _, pos := _, after := _, guard := _ }) (v := ?_) rfl (by kernel_rfl) (by kernel_rfl) (by kernel_rfl) (fun _ _ _ h => h) (Or.inl ⟨by rfl, ?_⟩) (by assumption) ?_
      rotate_left 1
      · intro v hSv
        clear hSv
        go_simp
        try with_reducible rfl
      try simp only [Act.put, List.setIfInBounds_toArray, List.set_cons_zero, List.set_cons_succ]
      refine wpAnyH_take (i := 1) (oi := { dst := some 56, op := .move (.tmp 12), type := _, pos := _, after := _, guard := _ }) (v := ?_) rfl (by kernel_rfl) (by kernel_rfl) (by kernel_rfl) (fun _ _ _ h => h) (Or.inl ⟨by rfl, ?_⟩) (by assumption) ?_
      rotate_left 1
      · intro v hSv
        clear hSv
        go_simp
        try with_reducible rfl
      try simp only [Act.put, List.setIfInBounds_toArray, List.set_cons_zero, List.set_cons_succ]
      refine wpAnyH_take (i := 2) (oi := { dst := some 57, op := .move (.tmp 14), type := _, pos := _, after := _, guard := _ }) (v := ?_) rfl (by kernel_rfl) (by kernel_rfl) (by kernel_rfl) (fun _ _ _ h => h) (Or.inl ⟨by rfl, ?_⟩) (by assumption) ?_
      rotate_left 1
      · intro v hSv
        clear hSv
        go_simp
        try with_reducible rfl
      try simp only [Act.put, List.setIfInBounds_toArray, List.set_cons_zero, List.set_cons_succ]
      refine wpAnyH_take (i := 3) (oi := { dst := some 58, op := .indexAddr _ (.tmp 56) (.tmp 57), type := _, pos := _, after := _, guard := _ }) (v := ?_) rfl (by kernel_rfl) (by kernel_rfl) (by kernel_rfl) (fun _ _ _ h => h) (Or.inl ⟨by rfl, ?_⟩) (by assumption) ?_
      rotate_left 1
      · intro v hSv
        clear hSv
        go_simp
        try with_reducible rfl
      try simp only [Act.put, List.setIfInBounds_toArray, List.set_cons_zero, List.set_cons_succ]
      refine wpAnyH_take (i := 4) (oi := { dst := some 59, op := .load _ (.tmp 58), type := _, pos := _, after := _, guard := _ }) (v := ?_) rfl (by kernel_rfl) (by kernel_rfl) (by kernel_rfl) (fun _ _ _ h => h) (Or.inl ⟨by rfl, ?_⟩) (by assumption) ?_
      rotate_left 1
      · intro v hSv
        have hv1 := LA.out v hSv
        clear hSv
        go_simp
        try with_reducible rfl
      try simp only [Act.put, List.setIfInBounds_toArray, List.set_cons_zero, List.set_cons_succ]
      refine wpAnyH_take (i := 6) (oi := { dst := some 61, op := .move (.tmp 10), type := _, pos := _, after := _, guard := _ }) (v := ?_) rfl (by kernel_rfl) (by kernel_rfl) (by kernel_rfl) (fun _ _ _ h => h) (Or.inl ⟨by rfl, ?_⟩) (by assumption) ?_
      rotate_left 1
      · intro v hSv
        clear hSv
        go_simp
        try with_reducible rfl
      try simp only [Act.put, List.setIfInBounds_toArray, List.set_cons_zero, List.set_cons_succ]
      refine wpAnyH_take (i := 7) (oi := { dst := some 62, op := .move (.tmp 13), type := _, pos := _, after := _, guard := _ }) (v := ?_) rfl (by kernel_rfl) (by kernel_rfl) (by kernel_rfl) (fun _ _ _ h => h) (Or.inl ⟨by rfl, ?_⟩) (by assumption) ?_
      rotate_left 1
      · intro v hSv
        clear hSv
        go_simp
        try with_reducible rfl
      try simp only [Act.put, List.setIfInBounds_toArray, List.set_cons_zero, List.set_cons_succ]
      refine wpAnyH_take (i := 8) (oi := { dst := some 63, op := .move (.tmp 14), type := _, pos := _, after := _, guard := _ }) (v := ?_) rfl (by kernel_rfl) (by kernel_rfl) (by kernel_rfl) (fun _ _ _ h => h) (Or.inl ⟨by rfl, ?_⟩) (by assumption) ?_
      rotate_left 1
      · intro v hSv
        clear hSv
        go_simp
        try with_reducible rfl
      try simp only [Act.put, List.setIfInBounds_toArray, List.set_cons_zero, List.set_cons_succ]
      refine wpAnyH_take (i := 9) (oi := { dst := some 64, op := .indexAddr _ (.tmp 62) (.tmp 63), type := _, pos := _, after := _, guard := _ }) (v := ?_) rfl (by kernel_rfl) (by kernel_rfl) (by kernel_rfl) (fun _ _ _ h => h) (Or.inl ⟨by rfl, ?_⟩) (by assumption) ?_
      rotate_left 1
      · intro v hSv
        clear hSv
        go_simp
        try with_reducible rfl
      try simp only [Act.put, List.setIfInBounds_toArray, List.set_cons_zero, List.set_cons_succ]
      refine wpAnyH_take (i := 10) (oi := { dst := some 65, op := .load _ (.tmp 64), type := _, pos := _, after := _, guard := _ }) (v := ?_) rfl (by kernel_rfl) (by kernel_rfl) (by kernel_rfl) (fun _ _ _ h => h) (Or.inl ⟨by rfl, ?_⟩) (by assumption) ?_
      rotate_left 1
      · intro v hSv
        have hv1 := LB.out v hSv
        clear hSv
        go_simp
        try with_reducible rfl
      try simp only [Act.put, List.setIfInBounds_toArray, List.set_cons_zero, List.set_cons_succ]
      refine wpAnyH_ready (rs := [5]) (by kernel_rfl) (by simp) ?_
      refine AllReadyH.cons (o := { dst := some 60, op := .call _, type := _, pos := _, after := _, guard := _ }) rfl (fun K hK => ?_) AllReadyH.nil
      go_simp
      refine (HD1.out wr.drew m0 (hb0) hh0 (by omega)).mono ?_
      rintro e y1 ⟨m1, rfl, hm1, hh1, hb⟩
      have hb1 : Keep (fun i => i = b) wr y1 := (hb0).trans hb
      have HH1 := Lib.hid hh1
      clear hh1
      clear hb
      go_wp2_with fail
      refine hK.out _ _ (hb1) (fun hHeld => ?_)
      clear hK K
      try simp only [Act.put, List.setIfInBounds_toArray, List.set_cons_zero, List.set_cons_succ]
      refine wpAnyH_ready (rs := [11]) (by kernel_rfl) (by simp) ?_
      refine AllReadyH.cons (o := { dst := some 66, op := .call _, type := _, pos := _, after := _, guard := _ }) rfl (fun K hK => ?_) AllReadyH.nil
      go_simp
      refine (HD2.out y1 m1 (hb1) HH1.out (by omega)).mono ?_
      rintro e y2 ⟨m2, rfl, hm2, hh2, hb⟩
      have hb2 : Keep (fun i => i = b) wr y2 := (hb1).trans hb
      have HH2 := Lib.hid hh2
      clear hh2
      clear hb
      go_wp2_with fail
      refine hK.out _ _ (hb2) (fun hHeld => ?_)
      clear hK K
      try simp only [Act.put, List.setIfInBounds_toArray, List.set_cons_zero, List.set_cons_succ]
      refine wpAnyH_take (i := 12) (oi := { dst := some 67, op := .binOp .neq _ (.tmp 60) (.tmp 66) _, type := _, pos := _, after := _, guard := _ }) (v := ?_) rfl (by kernel_rfl) (by kernel_rfl) (by kernel_rfl) (fun _ _ _ h => h) (Or.inl ⟨by rfl, ?_⟩) (by assumption) ?_
      rotate_left 1
      · intro v hSv
        have hv1 := fun x y => nq x y v
        clear hSv
        go_simp
        try with_reducible rfl
      try simp only [Act.put, List.setIfInBounds_toArray, List.set_cons_zero, List.set_cons_succ]
      refine wpAnyH_done (by kernel_rfl) ?_ _
      have HKF := Lib.hid (hb2)
      have HQF := Lib.hid (HQr.out.made nd HKF.out ⟨m2, (show m2 ≤ 2000 + 2 * (k + 1) by omega), HH2.out⟩)
      clear LA LB HD1 HD2
      clear nq hh0 hm0 hm1 hm2
      go_wp2_with fail
      go_roundg (s1.length - (k + 1))
      case measure => omega
      case rel => exact ⟨k + 1, by go_num, by omega, rfl, HQF, HKr.out.trans HKF.out⟩
    · obtain rfl : k = s1.length := by omega
      have hd : decide (s1.length < s1.length) = false := decide_eq_false (by omega)
      obtain ⟨w7, hw7⟩ : ∃ w7, w7 = wr := ⟨_, rfl⟩
      rw [← hw7] at HQr hM' ⊢
      have HM7 := Lib.hid hM'
      clear hw7 hh6 hM' HQ6 HM6 HPt HPv HQ5 HM5 HKr
      have HAL := Lib.hid (alive9_c nd fv pv w7 HQr.out.fs.vars)
      go_wp2_with fail
      refine HAL.out.mono ?_
      rintro _ w8 ⟨rfl, hB⟩
      have HQ8 := Lib.hid (HQr.out.below nd hB)
      have HM8 := Lib.hid (nd.below HM7.out hB)
      clear hB HAL HQr HM7
      obtain ⟨a1, ha1⟩ : ∃ a, a = lenT T.tr := ⟨_, rfl⟩
      obtain ⟨a2, ha2⟩ : ∃ a, a = lenT T'.tr := ⟨_, rfl⟩
      have HN1 := Lib.hid (fun q h => nd.len q n T h (by rw [HI.out.len, List.length_map]; have := HLE.out; omega))
      have HN2 := Lib.hid (fun q h => nd.len q n T' h (by have := HLT.out.2; have : lenT T.tr = _ := HI.out.len; rw [List.length_map] at this; have := HLE.out; omega))
      rw [HPT.out, ← ha1] at HN1
      rw [HPT'.out, ← ha2] at HN2
      have hla := HLT.out
      have hl9 : lenT T.tr ≤ 12 := by have : lenT T.tr = _ := HI.out.len; rw [List.length_map] at this; have := HLE.out; omega
      rw [← ha1, ← ha2] at hla
      rw [← ha1] at hl9
      have g1 : decide ((a1 : Int) ≤ (a2 : Int)) = true := decide_eq_true (by omega)
      have g2 : decide ((a2 : Int) ≤ (a1 : Int) + 1) = true := decide_eq_true (by omega)
      have g3 : decide (a1 ≤ a2) = true := decide_eq_true (by omega)
      clear ha1 ha2
      go_wp2_with fail
      refine (HN2.out _ HM8.out).mono ?_
      rintro _ w9 ⟨rfl, hB⟩
      have HQ9 := Lib.hid (HQ8.out.below nd hB)
      have HM9 := Lib.hid (nd.below HM8.out hB)
      clear hB HQ8 HM8
      go_wp2_with fail
      refine (HN1.out _ HQ9.out.fs.ms).mono ?_
      rintro _ w10 ⟨rfl, hB⟩
      have HQ10 := Lib.hid (HQ9.out.below nd hB)
      have HM10 := Lib.hid (nd.below HM9.out hB)
      clear hB HQ9 HM9
      go_wp2_with fail
      refine (HN2.out _ HM10.out).mono ?_
      rintro _ w11 ⟨rfl, hB⟩
      have HQ11 := Lib.hid (HQ10.out.below nd hB)
      have HM11 := Lib.hid (nd.below HM10.out hB)
      clear hB HQ10 HM10
      go_wp2_with fail
      refine (HN1.out _ HQ11.out.fs.ms).mono ?_
      rintro _ w12 ⟨rfl, hB⟩
      have HQ12 := Lib.hid (HQ11.out.below nd hB)
      have HM12 := Lib.hid (nd.below HM11.out hB)
      clear hB HQ11 HM11
      go_wp2_with fail
      go_ret
      exact ⟨rfl, HB0.out.trans (HQ12.out.fs.bel.mono HB0.out.size)⟩
set_option maxHeartbeats 16000000 in
set_option maxRecDepth 100000 in
theorem shares_long {M : World → Int → Tv → Prop} (nd : NdV M) (fv : FnV M) (pv : PtV M) (n : Int) (A : Option Addr) (c : Nat) (es : List En) (x : En) (W : World) (hA : EA W A es) (hl : es.length ≤ 12) (hvl : ∀ e ∈ es, e.v.length ≤ 1000) (hf : fewK (es.map En.ent) = true) (hvx : Vars W) (h0 : 0 ≤ n) (h1 : n ≤ 256) (hx : EnOk W x) (hxl : 200 < x.v.length) :
    Calls Tryd.prog 8 #[.int .i64 n, .slice A es.length c, .agg (enC x).toArray] W (Aye W) := by
  obtain ⟨X, hX⟩ : ∃ X, X = W.alloc (.cells (enC x).toArray 27) := ⟨_, rfl⟩
  have hb0 : Below W.heap.size W X := by rw [hX]; exact (Below.refl _ _).alloc (Nat.le_refl _) _
  have hr0 : X.rangeAt W.heap.size 0 (enC x) := by rw [hX]; exact ent_made W x _
  have HR0 := Lib.hid hr0
  have HXO := Lib.hid (hx.below hb0)
  have HXL := Lib.hid hxl
  clear hr0 hx hxl
  have HX := Lib.hid hX
  have HB0 := Lib.hid hb0
  have HT := Lib.hid (tree_in nd n A c es X (hA.below hb0) hl hvl hf (hvx.below hb0) h0 h1)
  have HVE : Hid (∀ e ∈ ofE es, e.v.length ≤ 1000) := fun e he => hvl e (ofE_mem he)
  have HLE : Hid ((ofE es).length ≤ 12) := Nat.le_trans (ofE_len es) hl
  clear hA hvl hf hvx hX hb0
  go_enter Tryd.func8, Tryd.ntmps8
  go_wp2_with fail
  rw [← HX.out]
  clear HX
  refine HT.out.mono ?_
  rintro _ w2 ⟨A2, c2, T, rfl, hc2, hI, hF⟩
  have HI := Lib.hid hI
  have HF2 := Lib.hid hF
  have HC2 := Lib.hid hc2
  obtain ⟨O, hO⟩ : ∃ O, O = ofE es := ⟨_, rfl⟩
  rw [← hO] at HI HF2 HVE HLE HC2 ⊢
  obtain ⟨pT, hpT⟩ := val_ptr nd hF.ms
  have HPT := Lib.hid hpT
  rw [hpT]
  have HH := Lib.hid (hash_in n w2 h0 h1)
  clear hc2 hI hF HT hO hpT
  go_wp2_with fail
  refine HH.out.mono ?_
  rintro _ w3 ⟨b, rfl, hbn, hH, hB⟩
  have HQ3 : Hid (Tf M X n A2 O T b 0 w3) := ⟨HF2.out.below nd hB, ⟨0, Nat.le_refl _, hH⟩, Nat.le_trans HF2.out.bel.size hbn⟩
  clear hH hbn hB HH HF2
  unfold ptr
  have lv := range_val (range_below HR0.out HQ3.out.fs.bel) HXO.out.key
  rw [Nat.zero_add] at lv
  have e2 : decide (200 < (x.v.length : Int)) = true := decide_eq_true (by have := HXL.out; omega)
  have e1 : decide (200 < x.v.length) = true := decide_eq_true HXL.out
  have HAL := Lib.hid (alive9_c nd fv pv w3 HQ3.out.fs.vars)
  go_wp2_with fail
  refine HAL.out.mono ?_
  rintro _ w4 ⟨rfl, hB⟩
  have HQ4 := Lib.hid (HQ3.out.below nd hB)
  clear hB HAL HQ3
  go_wp2_with fail
  go_ret
  exact ⟨rfl, HB0.out.trans (HQ4.out.fs.bel.mono HB0.out.size)⟩
set_option maxHeartbeats 4000000 in
set_option maxRecDepth 100000 in
/-- Other bits, or entries that are not few: alive. -/
theorem shares_out {M : World → Int → Tv → Prop} (nd : NdV M) (fv : FnV M) (pv : PtV M) (n : Int) (A : Option Addr) (c : Nat) (es : List En) (x : En) (W : World) (hA : EA W A es) (hvx : Vars W) (h : (n < 0 ∨ 256 < n) ∨ fewK (es.map En.ent) = false) :
    Calls Tryd.prog 8 #[.int .i64 n, .slice A es.length c, .agg (enC x).toArray] W (Aye W) := by
  obtain ⟨X, hX⟩ : ∃ X, X = W.alloc (.cells (enC x).toArray 27) := ⟨_, rfl⟩
  have hb0 : Below W.heap.size W X := by rw [hX]; exact (Below.refl _ _).alloc (Nat.le_refl _) _
  have HX := Lib.hid hX
  have HB0 := Lib.hid hb0
  have HVX := Lib.hid (hvx.below hb0)
  have HT := Lib.hid (tree_out n A c es X (hA.below hb0) h)
  have HAL := Lib.hid (fun w h => alive9_c nd fv pv w h)
  clear hA hvx h hX hb0
  go_enter Tryd.func8, Tryd.ntmps8
  go_wp2_with fail
  rw [← HX.out]
  clear HX
  refine HT.out.mono ?_
  rintro _ w2 ⟨rfl, hB⟩
  have HB := Lib.hid hB
  clear hB HT
  go_wp2_with fail
  refine (hash_any n w2).mono ?_
  rintro _ w3 ⟨p, rfl, hB⟩
  have HB3 := Lib.hid (HB.out.trans (hB.mono HB.out.size))
  clear hB HB
  go_wp2_with fail
  refine (HAL.out w3 (HVX.out.below HB3.out)).mono ?_
  rintro _ w4 ⟨rfl, hB⟩
  have HB4 := Lib.hid (HB3.out.trans (hB.mono HB3.out.size))
  clear hB
  go_wp2_with fail
  go_ret
  exact ⟨rfl, HB0.out.trans (HB4.out.mono HB0.out.size)⟩
end Go.Proofs.YtmgablpnggoabaaDoor

/- The walk of PutCommutes over contracts (its drawn regions by program). -/
namespace Go.Proofs.YtmgablpnggoabaaDoor
open Go.RowKit

theorem rmK_comm (l : List Ent) (a b : List UInt8) : rmK (rmK l a) b = rmK (rmK l b) a := by
  unfold rmK
  rw [List.filter_filter, List.filter_filter]
  exact List.filter_congr fun e _ => Bool.and_comm _ _
theorem rmK_idem (l : List Ent) (a : List UInt8) : rmK (rmK l a) a = rmK l a := by
  unfold rmK
  rw [List.filter_filter]
  exact List.filter_congr fun e _ => Bool.and_self _
theorem rmK_perm {l m : List Ent} (h : l.Perm m) (k : List UInt8) : (rmK l k).Perm (rmK m k) := h.filter _
theorem putK_two (l : List Ent) {x z : Ent} (h : x.k ≠ z.k) : (putK (putK l x) z).Perm (z :: x :: rmK (rmK l x.k) z.k) := by
  refine (putK_perm _ z).trans (List.Perm.cons z ?_)
  refine (rmK_perm (putK_perm l x) z.k).trans ?_
  rw [show rmK (x :: rmK l x.k) z.k = x :: rmK (rmK l x.k) z.k by simp [rmK, h]]
theorem putK_swap (l : List Ent) {x z : Ent} (h : x.k ≠ z.k) : (putK (putK l x) z).Perm (putK (putK l z) x) := by
  refine (putK_two l h).trans (((List.Perm.swap x z _).trans ?_).trans (putK_two l (Ne.symm h)).symm)
  rw [rmK_comm]
theorem putK_again (l : List Ent) (z : Ent) : (putK (putK l z) z).Perm (putK l z) := by
  refine (putK_perm _ z).trans ((List.Perm.cons z ?_).trans (putK_perm l z).symm)
  refine (rmK_perm (putK_perm l z) z.k).trans ?_
  rw [show rmK (z :: rmK l z.k) z.k = rmK (rmK l z.k) z.k by simp [rmK], rmK_idem]
theorem IsMap.perm {l m : List Ent} {T S : Tv} (h : IsMap l T) (h' : IsMap m S) (p : l.Perm m) : T.tr = S.tr := by
  rw [h.tr, h'.tr]
  exact growT_perm 257 l m 0 h.sep (.inr ⟨by omega, by omega, by omega⟩) p
/-- Put, Digest, Len where a law's walk stands. -/
theorem put_tf {M : World → Int → Tv → Prop} (nd : NdV M) (pv : PtV M) {W q : World} {n : Int} {A : Option Addr} {m : List En} {T S : Tv} {b c : Nat} {l : List Ent} {e : En} {p : Option Addr} (h : Tf M W n A m T b c q) (hc : c ≤ 500000) (hS : M q n S) (hp : S.val = .pointer p) (hI : IsMap l S) (hl : l.length ≤ 1000) (he : EnOk q e) (hv : e.v.length ≤ 1000) :
    Calls Tryd.prog 13 #[.pointer (some ⟨b, 0, none⟩), .pointer p, .agg (enC e).toArray] q fun x w' => ∃ S' p', x = .returned (.pointer p') ∧ S'.val = .pointer p' ∧ IsMap (putK l e.ent) S' ∧ M w' n S' ∧ Tf M W n A m T b (c + 1000) w' ∧ Keep (fun i => i = b) q w' := by
  obtain ⟨c', hc', hh⟩ := h.hs
  have := pv.put q b n c' l S e hh (by omega) h.fs.vars hS hI (by omega) he hv
  rw [hp] at this
  refine this.mono fun x w' ⟨S', hx, hI', hm⟩ => ?_
  obtain ⟨p', hp'⟩ := val_ptr nd hm.ms
  obtain ⟨d, hd, hhd⟩ := hm.hs
  exact ⟨S', p', by rw [hx, hp'], hp', hI', hm.ms, h.made nd hm.keep ⟨d, by omega, hhd⟩, hm.keep⟩
theorem dig_tf {M : World → Int → Tv → Prop} (nd : NdV M) {W q : World} {n : Int} {A : Option Addr} {m : List En} {T S : Tv} {b c : Nat} {p : Option Addr} (h : Tf M W n A m T b c q) (hc : c ≤ 500000) (hS : M q n S) (hp : S.val = .pointer p) :
    Calls Tryd.prog 19 #[.pointer (some ⟨b, 0, none⟩), .pointer p] q fun x w' => x = .returned (.agg (bA (digT n S.tr))) ∧ Tf M W n A m T b (c + 1) w' ∧ Keep (fun i => i = b) q w' := by
  obtain ⟨c', hc', hh⟩ := h.hs
  have := nd.digest q b n c' S hh (by omega) h.fs.vars hS
  rw [hp] at this
  exact this.mono fun x w' ⟨d, hx, hd, _, hhd, hk⟩ => ⟨hx, h.made nd hk ⟨d, by omega, hhd⟩, hk⟩
theorem len_tf {M : World → Int → Tv → Prop} (nd : NdV M) {W q : World} {n : Int} {A : Option Addr} {m : List En} {T S : Tv} {b c : Nat} {p : Option Addr} (h : Tf M W n A m T b c q) (hS : M q n S) (hp : S.val = .pointer p) (hl : lenT S.tr ≤ 1000000000) :
    Calls Tryd.prog 20 #[.pointer p] q fun x w' => x = .returned (.int .i64 (lenT S.tr : Int)) ∧ Tf M W n A m T b c w' ∧ Below q.heap.size q w' := by
  have := nd.len q n S hS hl
  rw [hp] at this
  exact this.mono fun x w' ⟨hx, hb⟩ => ⟨hx, h.below nd hb, hb⟩
theorem Tf.msK {M : World → Int → Tv → Prop} (nd : NdV M) {W w w' : World} {n : Int} {A : Option Addr} {m : List En} {T S : Tv} {b c : Nat} (h : Tf M W n A m T b c w) (hS : M w n S) (hk : Keep (fun i => i = b) w w') : M w' n S := by
  obtain ⟨c', _, hh⟩ := h.hs
  exact nd.hs hS hh hk
set_option maxHeartbeats 16000000 in
set_option maxRecDepth 100000 in
theorem comm_in {M : World → Int → Tv → Prop} (nd : NdV M) (fv : FnV M) (pv : PtV M) (n : Int) (A : Option Addr) (c : Nat) (es : List En) (x z : En) (W : World) (hA : EA W A es) (hl : es.length ≤ 12) (hvl : ∀ e ∈ es, e.v.length ≤ 1000) (hf : fewK (es.map En.ent) = true) (hvx : Vars W) (h0 : 0 ≤ n) (h1 : n ≤ 256) (hx : EnOk W x) (hz : EnOk W z) (hxl : x.v.length ≤ 200) (hzl : z.v.length ≤ 200) :
    Calls Tryd.prog 5 #[.int .i64 n, .slice A es.length c, .agg (enC x ++ enC z).toArray] W (Aye W) := by
  obtain ⟨X, hX⟩ : ∃ X, X = W.alloc (.cells (enC x ++ enC z).toArray 43) := ⟨_, rfl⟩
  have hb0 : Below W.heap.size W X := by rw [hX]; exact (Below.refl _ _).alloc (Nat.le_refl _) _
  have hkx : x.k.length = 32 := hx.key
  have hr0 : X.rangeAt W.heap.size 0 (enC x) := by
    rw [hX]
    intro j v hv
    rw [Nat.zero_add, cell_of_cells (heap_alloc_new W _), List.getElem?_toArray, List.getElem?_append_left (List.getElem?_eq_some_iff.1 hv).1]
    exact hv
  have hr1 : X.rangeAt W.heap.size 33 (enC z) := by
    rw [hX]
    intro j v hv
    rw [cell_of_cells (heap_alloc_new W _), List.getElem?_toArray, List.getElem?_append_right (by rw [enC_len hkx]; omega), enC_len hkx, show 33 + j - 33 = j by omega]
    exact hv
  have HR0 := Lib.hid hr0
  have HR1 := Lib.hid hr1
  have HXO := Lib.hid (hx.below hb0)
  have HZO := Lib.hid (hz.below hb0)
  have HXL := Lib.hid hxl
  have HZL := Lib.hid hzl
  have HXS : Hid (W.heap.size < X.heap.size) := by show _ < _; rw [hX]; simp
  clear hr0 hr1 hx hz hxl hzl hkx
  have HX := Lib.hid hX
  have HB0 := Lib.hid hb0
  have HT := Lib.hid (tree_in nd n A c es X (hA.below hb0) hl hvl hf (hvx.below hb0) h0 h1)
  have HVE : Hid (∀ e ∈ ofE es, e.v.length ≤ 1000) := fun e he => hvl e (ofE_mem he)
  have HLE : Hid ((ofE es).length ≤ 12) := Nat.le_trans (ofE_len es) hl
  clear hA hvl hf hvx hX hb0
  go_enter Tryd.func5, Tryd.ntmps5
  go_wp2_with fail
  rw [← HX.out]
  clear HX
  refine HT.out.mono ?_
  rintro _ w2 ⟨A2, c2, T, rfl, hc2, hI, hF⟩
  have HI := Lib.hid hI
  have HF2 := Lib.hid hF
  have HC2 := Lib.hid hc2
  obtain ⟨O, hO⟩ : ∃ O, O = ofE es := ⟨_, rfl⟩
  rw [← hO] at HI HF2 HVE HLE HC2 ⊢
  obtain ⟨pT, hpT⟩ := val_ptr nd hF.ms
  have HPT := Lib.hid hpT
  rw [hpT]
  have HH := Lib.hid (hash_in n w2 h0 h1)
  clear hc2 hI hF HT hO hpT
  go_wp2_with fail
  refine HH.out.mono ?_
  rintro _ w3 ⟨b, rfl, hbn, hH, hB⟩
  have HQ3 : Hid (Tf M X n A2 O T b 0 w3) := ⟨HF2.out.below nd hB, ⟨0, Nat.le_refl _, hH⟩, Nat.le_trans HF2.out.bel.size hbn⟩
  clear hH hbn hB HH HF2
  unfold ptr
  have HWB : Hid (W.heap.size < b) := by show _ < _; have := HXS.out; have := HQ3.out.new; omega
  have lv := range_val (range_below HR0.out HQ3.out.fs.bel) HXO.out.key
  rw [Nat.zero_add] at lv
  have lz := range_val (range_below HR1.out HQ3.out.fs.bel) HZO.out.key
  have e2x : decide (200 < (x.v.length : Int)) = false := decide_eq_false (by have := HXL.out; omega)
  have e1x : decide (200 < x.v.length) = false := decide_eq_false (by have := HXL.out; omega)
  have e2z : decide (200 < (z.v.length : Int)) = false := decide_eq_false (by have := HZL.out; omega)
  have e1z : decide (200 < z.v.length) = false := decide_eq_false (by have := HZL.out; omega)
  clear HC2
  go_wp2_with fail
  have Lx : Hid (∀ q, Keep (fun i => i = b) w3 q → ldA 27 q (.pointer (some ⟨W.heap.size, 0, none⟩)) = .ok (.value (.agg (enC x).toArray)) q) := fun q h => range_ent (fun j v hv => h.cellAt (range_below HR0.out (HQ3.out.fs.bel) j v hv) (by have := HWB.out; show W.heap.size ≠ b; omega)) HXO.out.key
  have Lz : Hid (∀ q, Keep (fun i => i = b) w3 q → ldA 27 q (.pointer (some ⟨W.heap.size, 33, none⟩)) = .ok (.value (.agg (enC z).toArray)) q) := fun q h => range_ent (fun j v hv => h.cellAt (range_below HR1.out (HQ3.out.fs.bel) j v hv) (by have := HWB.out; show W.heap.size ≠ b; omega)) HZO.out.key
  have HQD : Hid (Tf M X n A2 O T b 0 w3.drew) := HQ3.out.below nd ((Below.refl _ _).drew)
  refine wp_region_held_drew (S := fun w' => Keep (fun i => i = b) w3 w') (by kernel_rfl) ((Keep.refl _ _).drew) (fun hHeld => ?_)
  have hb0 : Keep (fun i => i = b) w3 w3.drew := (Keep.refl _ _).drew
  refine wpAnyH_take (i := 0) (oi := { dst := some 40, op := .move (.tmp 10), type := _, pos := _, after := _, guard := _ }) (v := ?_) rfl (by kernel_rfl) (by kernel_rfl) (by kernel_rfl) (fun _ _ _ h => h) (Or.inl ⟨by rfl, ?_⟩) (by assumption) ?_
  rotate_left 1
  · intro v hSv
    clear hSv
    go_simp
    try with_reducible rfl
  try simp only [Act.put, List.setIfInBounds_toArray, List.set_cons_zero, List.set_cons_succ]
  refine wpAnyH_take (i := 1) (oi := { dst := some 41, op := .move (.tmp 10), type := _, pos := _, after := _, guard := _ }) (v := ?_) rfl (by kernel_rfl) (by kernel_rfl) (by kernel_rfl) (fun _ _ _ h => h) (Or.inl ⟨by rfl, ?_⟩) (by assumption) ?_
  rotate_left 1
  · intro v hSv
    clear hSv
    go_simp
    try with_reducible rfl
  try simp only [Act.put, List.setIfInBounds_toArray, List.set_cons_zero, List.set_cons_succ]
  refine wpAnyH_take (i := 2) (oi := { dst := some 42, op := .move (.tmp 8), type := _, pos := _, after := _, guard := _ }) (v := ?_) rfl (by kernel_rfl) (by kernel_rfl) (by kernel_rfl) (fun _ _ _ h => h) (Or.inl ⟨by rfl, ?_⟩) (by assumption) ?_
  rotate_left 1
  · intro v hSv
    clear hSv
    go_simp
    try with_reducible rfl
  try simp only [Act.put, List.setIfInBounds_toArray, List.set_cons_zero, List.set_cons_succ]
  refine wpAnyH_take (i := 3) (oi := { dst := some 43, op := .indexAddr _ (.tmp 5) (.const (.int .i64 0)), type := _, pos := _, after := _, guard := _ }) (v := ?_) rfl (by kernel_rfl) (by kernel_rfl) (by kernel_rfl) (fun _ _ _ h => h) (Or.inl ⟨by rfl, ?_⟩) (by assumption) ?_
  rotate_left 1
  · intro v hSv
    clear hSv
    go_simp
    try with_reducible rfl
  try simp only [Act.put, List.setIfInBounds_toArray, List.set_cons_zero, List.set_cons_succ]
  refine wpAnyH_take (i := 4) (oi := { dst := some 44, op := .load _ (.tmp 43), type := _, pos := _, after := _, guard := _ }) (v := ?_) rfl (by kernel_rfl) (by kernel_rfl) (by kernel_rfl) (fun _ _ _ h => h) (Or.inl ⟨by rfl, ?_⟩) (by assumption) ?_
  rotate_left 1
  · intro v hSv
    have hv1 := Lx.out v hSv
    clear hSv
    go_simp
    try with_reducible rfl
  try simp only [Act.put, List.setIfInBounds_toArray, List.set_cons_zero, List.set_cons_succ]
  refine wpAnyH_take (i := 6) (oi := { dst := some 46, op := .indexAddr _ (.tmp 5) (.const (.int .i64 1)), type := _, pos := _, after := _, guard := _ }) (v := ?_) rfl (by kernel_rfl) (by kernel_rfl) (by kernel_rfl) (fun _ _ _ h => h) (Or.inl ⟨by rfl, ?_⟩) (by assumption) ?_
  rotate_left 1
  · intro v hSv
    clear hSv
    go_simp
    try with_reducible rfl
  try simp only [Act.put, List.setIfInBounds_toArray, List.set_cons_zero, List.set_cons_succ]
  refine wpAnyH_take (i := 7) (oi := { dst := some 47, op := .load _ (.tmp 46), type := _, pos := _, after := _, guard := _ }) (v := ?_) rfl (by kernel_rfl) (by kernel_rfl) (by kernel_rfl) (fun _ _ _ h => h) (Or.inl ⟨by rfl, ?_⟩) (by assumption) ?_
  rotate_left 1
  · intro v hSv
    have hv1 := Lz.out v hSv
    clear hSv
    go_simp
    try with_reducible rfl
  try simp only [Act.put, List.setIfInBounds_toArray, List.set_cons_zero, List.set_cons_succ]
  refine wpAnyH_ready (rs := [5]) (by kernel_rfl) (by simp) ?_
  refine AllReadyH.cons (o := { dst := some 45, op := .call _, type := _, pos := _, after := _, guard := _ }) rfl (fun K hK => ?_) AllReadyH.nil
  go_simp
  refine (put_tf nd pv HQD.out (by omega) HQD.out.fs.ms HPT.out HI.out (by rw [List.length_map]; have := HLE.out; omega) (HXO.out.below HQD.out.fs.bel) (by have := HXL.out; omega)).mono ?_
  rintro e y1 ⟨T1, p1, rfl, hp1, hI1, hM1, hQ1, hb⟩
  have hb1 : Keep (fun i => i = b) w3 y1 := (hb0).trans hb
  have HP1 := Lib.hid hp1
  have HI1 := Lib.hid hI1
  have HM1 := Lib.hid hM1
  have HQ1 := Lib.hid hQ1
  have HL1 : Hid ((putK (O.map En.ent) x.ent).length ≤ 13) := by show _ ≤ _; have := putK_len (O.map En.ent) x.ent; rw [List.length_map] at this; have := HLE.out; omega
  clear hp1 hI1 hM1 hQ1 HQD
  clear hb
  go_wp2_with fail
  refine hK.out _ _ (hb1) (fun hHeld => ?_)
  clear hK K
  try simp only [Act.put, List.setIfInBounds_toArray, List.set_cons_zero, List.set_cons_succ]
  refine wpAnyH_ready (rs := [8]) (by kernel_rfl) (by simp) ?_
  refine AllReadyH.cons (o := { dst := some 48, op := .call _, type := _, pos := _, after := _, guard := _ }) rfl (fun K hK => ?_) AllReadyH.nil
  go_simp
  refine (put_tf nd pv HQ1.out (by omega) HM1.out HP1.out HI1.out (by have := HL1.out; omega) (HZO.out.below HQ1.out.fs.bel) (by have := HZL.out; omega)).mono ?_
  rintro e y2 ⟨T2, p2, rfl, hp2, hI2, hM2, hQ2, hb⟩
  have hb2 : Keep (fun i => i = b) w3 y2 := (hb1).trans hb
  have HP2 := Lib.hid hp2
  have HI2 := Lib.hid hI2
  have HM2 := Lib.hid hM2
  have HQ2 := Lib.hid hQ2
  clear hp2 hI2 hM2 hQ2 HQ1 HM1 HP1 HI1
  clear hb
  go_wp2_with fail
  refine hK.out _ _ (hb2) (fun hHeld => ?_)
  clear hK K
  try simp only [Act.put, List.setIfInBounds_toArray, List.set_cons_zero, List.set_cons_succ]
  refine wpAnyH_take (i := 9) (oi := { dst := some 11, op := .assign (.tmp 48), type := _, pos := _, after := _, guard := _ }) (v := ?_) rfl (by kernel_rfl) (by kernel_rfl) (by kernel_rfl) (fun _ _ _ h => h) (Or.inl ⟨by rfl, ?_⟩) (by assumption) ?_
  rotate_left 1
  · intro v hSv
    clear hSv
    go_simp
    try with_reducible rfl
  try simp only [Act.put, List.setIfInBounds_toArray, List.set_cons_zero, List.set_cons_succ]
  refine wpAnyH_done (by kernel_rfl) ?_ _
  clear Lx Lz
  have AK := Lib.hid (hb2)
  obtain ⟨AT, hAT⟩ : ∃ S, S = T2 := ⟨_, rfl⟩
  obtain ⟨Ap, hAp⟩ : ∃ S, S = p2 := ⟨_, rfl⟩
  obtain ⟨Aw, hAw⟩ : ∃ S, S = y2 := ⟨_, rfl⟩
  rw [← hAT, ← hAp] at HP2
  rw [← hAT] at HI2
  rw [← hAT, ← hAw] at HM2
  rw [← hAw] at HQ2 AK
  rw [← hAp, ← hAw]
  have AP := Lib.hid HP2.out
  have AI := Lib.hid HI2.out
  have AM := Lib.hid HM2.out
  have AQ := Lib.hid HQ2.out
  clear HP2 HI2 HM2 HQ2 HL1 hAT hAp hAw
  clear HQ3
  go_wp2_with fail
  have Lx : Hid (∀ q, Keep (fun i => i = b) Aw q → ldA 27 q (.pointer (some ⟨W.heap.size, 0, none⟩)) = .ok (.value (.agg (enC x).toArray)) q) := fun q h => range_ent (fun j v hv => h.cellAt (range_below HR0.out (AQ.out.fs.bel) j v hv) (by have := HWB.out; show W.heap.size ≠ b; omega)) HXO.out.key
  have Lz : Hid (∀ q, Keep (fun i => i = b) Aw q → ldA 27 q (.pointer (some ⟨W.heap.size, 33, none⟩)) = .ok (.value (.agg (enC z).toArray)) q) := fun q h => range_ent (fun j v hv => h.cellAt (range_below HR1.out (AQ.out.fs.bel) j v hv) (by have := HWB.out; show W.heap.size ≠ b; omega)) HZO.out.key
  have HQD : Hid (Tf M X n A2 O T b 2000 Aw.drew) := AQ.out.below nd ((Below.refl _ _).drew)
  refine wp_region_held_drew (S := fun w' => Keep (fun i => i = b) Aw w') (by kernel_rfl) ((Keep.refl _ _).drew) (fun hHeld => ?_)
  have hb0 : Keep (fun i => i = b) Aw Aw.drew := (Keep.refl _ _).drew
  refine wpAnyH_take (i := 0) (oi := { dst := some 49, op := .move (.tmp 10), type := _, pos := _, after := _, guard := _ }) (v := ?_) rfl (by kernel_rfl) (by kernel_rfl) (by kernel_rfl) (fun _ _ _ h => h) (Or.inl ⟨by rfl, ?_⟩) (by assumption) ?_
  rotate_left 1
  · intro v hSv
    clear hSv
    go_simp
    try with_reducible rfl
  try simp only [Act.put, List.setIfInBounds_toArray, List.set_cons_zero, List.set_cons_succ]
  refine wpAnyH_take (i := 1) (oi := { dst := some 50, op := .move (.tmp 10), type := _, pos := _, after := _, guard := _ }) (v := ?_) rfl (by kernel_rfl) (by kernel_rfl) (by kernel_rfl) (fun _ _ _ h => h) (Or.inl ⟨by rfl, ?_⟩) (by assumption) ?_
  rotate_left 1
  · intro v hSv
    clear hSv
    go_simp
    try with_reducible rfl
  try simp only [Act.put, List.setIfInBounds_toArray, List.set_cons_zero, List.set_cons_succ]
  refine wpAnyH_take (i := 2) (oi := { dst := some 51, op := .move (.tmp 8), type := _, pos := _, after := _, guard := _ }) (v := ?_) rfl (by kernel_rfl) (by kernel_rfl) (by kernel_rfl) (fun _ _ _ h => h) (Or.inl ⟨by rfl, ?_⟩) (by assumption) ?_
  rotate_left 1
  · intro v hSv
    clear hSv
    go_simp
    try with_reducible rfl
  try simp only [Act.put, List.setIfInBounds_toArray, List.set_cons_zero, List.set_cons_succ]
  refine wpAnyH_take (i := 3) (oi := { dst := some 52, op := .indexAddr _ (.tmp 5) (.const (.int .i64 1)), type := _, pos := _, after := _, guard := _ }) (v := ?_) rfl (by kernel_rfl) (by kernel_rfl) (by kernel_rfl) (fun _ _ _ h => h) (Or.inl ⟨by rfl, ?_⟩) (by assumption) ?_
  rotate_left 1
  · intro v hSv
    clear hSv
    go_simp
    try with_reducible rfl
  try simp only [Act.put, List.setIfInBounds_toArray, List.set_cons_zero, List.set_cons_succ]
  refine wpAnyH_take (i := 4) (oi := { dst := some 53, op := .load _ (.tmp 52), type := _, pos := _, after := _, guard := _ }) (v := ?_) rfl (by kernel_rfl) (by kernel_rfl) (by kernel_rfl) (fun _ _ _ h => h) (Or.inl ⟨by rfl, ?_⟩) (by assumption) ?_
  rotate_left 1
  · intro v hSv
    have hv1 := Lz.out v hSv
    clear hSv
    go_simp
    try with_reducible rfl
  try simp only [Act.put, List.setIfInBounds_toArray, List.set_cons_zero, List.set_cons_succ]
  refine wpAnyH_take (i := 6) (oi := { dst := some 55, op := .indexAddr _ (.tmp 5) (.const (.int .i64 0)), type := _, pos := _, after := _, guard := _ }) (v := ?_) rfl (by kernel_rfl) (by kernel_rfl) (by kernel_rfl) (fun _ _ _ h => h) (Or.inl ⟨by rfl, ?_⟩) (by assumption) ?_
  rotate_left 1
  · intro v hSv
    clear hSv
    go_simp
    try with_reducible rfl
  try simp only [Act.put, List.setIfInBounds_toArray, List.set_cons_zero, List.set_cons_succ]
  refine wpAnyH_take (i := 7) (oi := { dst := some 56, op := .load _ (.tmp 55), type := _, pos := _, after := _, guard := _ }) (v := ?_) rfl (by kernel_rfl) (by kernel_rfl) (by kernel_rfl) (fun _ _ _ h => h) (Or.inl ⟨by rfl, ?_⟩) (by assumption) ?_
  rotate_left 1
  · intro v hSv
    have hv1 := Lx.out v hSv
    clear hSv
    go_simp
    try with_reducible rfl
  try simp only [Act.put, List.setIfInBounds_toArray, List.set_cons_zero, List.set_cons_succ]
  refine wpAnyH_ready (rs := [5]) (by kernel_rfl) (by simp) ?_
  refine AllReadyH.cons (o := { dst := some 54, op := .call _, type := _, pos := _, after := _, guard := _ }) rfl (fun K hK => ?_) AllReadyH.nil
  go_simp
  refine (put_tf nd pv HQD.out (by omega) HQD.out.fs.ms HPT.out HI.out (by rw [List.length_map]; have := HLE.out; omega) (HZO.out.below HQD.out.fs.bel) (by have := HZL.out; omega)).mono ?_
  rintro e y1 ⟨T1, p1, rfl, hp1, hI1, hM1, hQ1, hb⟩
  have hb1 : Keep (fun i => i = b) Aw y1 := (hb0).trans hb
  have HP1 := Lib.hid hp1
  have HI1 := Lib.hid hI1
  have HM1 := Lib.hid hM1
  have HQ1 := Lib.hid hQ1
  have HL1 : Hid ((putK (O.map En.ent) z.ent).length ≤ 13) := by show _ ≤ _; have := putK_len (O.map En.ent) z.ent; rw [List.length_map] at this; have := HLE.out; omega
  clear hp1 hI1 hM1 hQ1 HQD
  clear hb
  go_wp2_with fail
  refine hK.out _ _ (hb1) (fun hHeld => ?_)
  clear hK K
  try simp only [Act.put, List.setIfInBounds_toArray, List.set_cons_zero, List.set_cons_succ]
  refine wpAnyH_ready (rs := [8]) (by kernel_rfl) (by simp) ?_
  refine AllReadyH.cons (o := { dst := some 57, op := .call _, type := _, pos := _, after := _, guard := _ }) rfl (fun K hK => ?_) AllReadyH.nil
  go_simp
  refine (put_tf nd pv HQ1.out (by omega) HM1.out HP1.out HI1.out (by have := HL1.out; omega) (HXO.out.below HQ1.out.fs.bel) (by have := HXL.out; omega)).mono ?_
  rintro e y2 ⟨T2, p2, rfl, hp2, hI2, hM2, hQ2, hb⟩
  have hb2 : Keep (fun i => i = b) Aw y2 := (hb1).trans hb
  have HP2 := Lib.hid hp2
  have HI2 := Lib.hid hI2
  have HM2 := Lib.hid hM2
  have HQ2 := Lib.hid hQ2
  clear hp2 hI2 hM2 hQ2 HQ1 HM1 HP1 HI1
  clear hb
  go_wp2_with fail
  refine hK.out _ _ (hb2) (fun hHeld => ?_)
  clear hK K
  try simp only [Act.put, List.setIfInBounds_toArray, List.set_cons_zero, List.set_cons_succ]
  refine wpAnyH_take (i := 9) (oi := { dst := some 12, op := .assign (.tmp 57), type := _, pos := _, after := _, guard := _ }) (v := ?_) rfl (by kernel_rfl) (by kernel_rfl) (by kernel_rfl) (fun _ _ _ h => h) (Or.inl ⟨by rfl, ?_⟩) (by assumption) ?_
  rotate_left 1
  · intro v hSv
    clear hSv
    go_simp
    try with_reducible rfl
  try simp only [Act.put, List.setIfInBounds_toArray, List.set_cons_zero, List.set_cons_succ]
  refine wpAnyH_done (by kernel_rfl) ?_ _
  clear Lx Lz
  have BK := Lib.hid (hb2)
  obtain ⟨BT, hBT⟩ : ∃ S, S = T2 := ⟨_, rfl⟩
  obtain ⟨Bp, hBp⟩ : ∃ S, S = p2 := ⟨_, rfl⟩
  obtain ⟨Bw, hBw⟩ : ∃ S, S = y2 := ⟨_, rfl⟩
  rw [← hBT, ← hBp] at HP2
  rw [← hBT] at HI2
  rw [← hBT, ← hBw] at HM2
  rw [← hBw] at HQ2 BK
  rw [← hBp, ← hBw]
  have BP := Lib.hid HP2.out
  have BI := Lib.hid HI2.out
  have BM := Lib.hid HM2.out
  have BQ := Lib.hid HQ2.out
  clear HP2 HI2 HM2 HQ2 HL1 hBT hBp hBw
  have AM2 := Lib.hid (AQ.out.msK nd AM.out BK.out)
  have lz := range_ent (range_below HR1.out BQ.out.fs.bel) HZO.out.key
  have HP := Lib.hid (put_tf nd pv BQ.out (by omega) AM2.out AP.out AI.out (by have := putK_len (putK (O.map En.ent) x.ent) z.ent; have := putK_len (O.map En.ent) x.ent; rw [List.length_map] at this; have := HLE.out; omega) (HZO.out.below BQ.out.fs.bel) (by have := HZL.out; omega))
  clear AQ AM AK BK lv
  go_wp2_with fail
  refine HP.out.mono ?_
  rintro _ w7 ⟨TC, pC, rfl, hpC, hIC, hMC, hQ7, hk7⟩
  have CP := Lib.hid hpC
  have CM := Lib.hid hMC
  have HQ7 := Lib.hid hQ7
  have AM3 := Lib.hid (BQ.out.msK nd AM2.out hk7)
  have BM3 := Lib.hid (BQ.out.msK nd BM.out hk7)
  have HCT : Hid (TC.tr = AT.tr) := hIC.perm AI.out (putK_again _ _)
  have HSW : Hid (x.k ≠ z.k → AT.tr = BT.tr) := fun h => AI.out.perm BI.out (putK_swap _ (show x.ent.k ≠ z.ent.k from h))
  have HLA : Hid (lenT AT.tr ≤ 1000000000) := by
    show _ ≤ _
    rw [AI.out.len]
    have := putK_len (putK (O.map En.ent) x.ent) z.ent
    have := putK_len (O.map En.ent) x.ent
    rw [List.length_map] at this
    have := HLE.out
    omega
  clear hpC hIC hMC hQ7 hk7 HP BQ AM2 BM lz
  have HAL := Lib.hid (alive9_c nd fv pv w7 HQ7.out.fs.vars)
  go_wp2_with fail
  refine HAL.out.mono ?_
  rintro _ w8 ⟨rfl, hB⟩
  have HQ8 := Lib.hid (HQ7.out.below nd hB)
  have AM4 := Lib.hid (nd.below AM3.out hB)
  have BM4 := Lib.hid (nd.below BM3.out hB)
  have CM4 := Lib.hid (nd.below CM.out hB)
  clear hB HAL HQ7 AM3 BM3 CM
  have HD := Lib.hid (dig_tf nd HQ8.out (by omega) AM4.out AP.out)
  obtain ⟨gA, hgA⟩ : ∃ g, g = digT n AT.tr := ⟨_, rfl⟩
  obtain ⟨gB, hgB⟩ : ∃ g, g = digT n BT.tr := ⟨_, rfl⟩
  have hlA : gA.length = 32 := by rw [hgA]; exact digT_len _ _
  have hlB : gB.length = 32 := by rw [hgB]; exact digT_len _ _
  rw [← hgA] at HD
  have HGA := Lib.hid hgA
  have HGB := Lib.hid hgB
  clear hgA hgB
  go_wp2_with fail
  refine HD.out.mono ?_
  rintro _ w9 ⟨rfl, hQ, hk⟩
  have HQ9 := Lib.hid hQ
  have AM5 := Lib.hid (HQ8.out.msK nd AM4.out hk)
  have BM5 := Lib.hid (HQ8.out.msK nd BM4.out hk)
  have CM5 := Lib.hid (HQ8.out.msK nd CM4.out hk)
  clear hQ hk HD HQ8 AM4 BM4 CM4
  have HD := Lib.hid (dig_tf nd HQ9.out (by omega) BM5.out BP.out)
  rw [← HGB.out] at HD
  go_wp2_with fail
  refine HD.out.mono ?_
  rintro _ wa ⟨rfl, hQ, hk⟩
  have HQa := Lib.hid hQ
  have AM6 := Lib.hid (HQ9.out.msK nd AM5.out hk)
  have CM6 := Lib.hid (HQ9.out.msK nd CM5.out hk)
  clear hQ hk HD HQ9 AM5 BM5 CM5
  have HDC := Lib.hid (dig_tf nd HQa.out (by omega) CM6.out CP.out)
  rw [HCT.out, ← HGA.out] at HDC
  have qa : ∀ x y w, eqA .eql 44 x y w (.agg (bA gA)) (.agg (bA gB)) = .ok (.value (.bool (decide (gA = gB)))) w := fun x y w => eqDig gA gB hlA hlB x y w
  have qc : ∀ x y w, eqA .eql 44 x y w (.agg (bA gA)) (.agg (bA gA)) = .ok (.value (.bool true)) w := fun x y w => by rw [eqDig gA gA hlA hlA, decide_eq_true rfl]
  have HGG : Hid (x.k ≠ z.k → gA = gB) := fun h => by rw [HGA.out, HGB.out, HSW.out h]
  clear hlA hlB
  have lx := range_key (range_below HR0.out HQa.out.fs.bel) HXO.out.key
  have lz := range_key (range_below HR1.out HQa.out.fs.bel) HZO.out.key
  by_cases hab : gA = gB
  · rw [decide_eq_true hab] at qa
    clear hab
    go_wp2_with fail
    refine HDC.out.mono ?_
    rintro _ wb ⟨rfl, hQ, hk⟩
    have HQb := Lib.hid hQ
    have AM7 := Lib.hid (HQa.out.msK nd AM6.out hk)
    have CM7 := Lib.hid (HQa.out.msK nd CM6.out hk)
    clear hQ hk HDC HQa AM6 CM6 lx lz qa
    have HD := Lib.hid (dig_tf nd HQb.out (by omega) AM7.out AP.out)
    rw [← HGA.out] at HD
    go_wp2_with fail
    refine HD.out.mono ?_
    rintro _ wc ⟨rfl, hQ, hk⟩
    have HQc := Lib.hid hQ
    have AM8 := Lib.hid (HQb.out.msK nd AM7.out hk)
    have CM8 := Lib.hid (HQb.out.msK nd CM7.out hk)
    clear hQ hk HD HQb AM7 CM7
    have HN := Lib.hid (len_tf nd HQc.out CM8.out CP.out (by rw [HCT.out]; exact HLA.out))
    rw [HCT.out] at HN
    obtain ⟨a, ha⟩ : ∃ a, a = lenT AT.tr := ⟨_, rfl⟩
    rw [← ha] at HN
    go_wp2_with fail
    refine HN.out.mono ?_
    rintro _ wd ⟨rfl, hQ, hB⟩
    have HQd := Lib.hid hQ
    have AM9 := Lib.hid (nd.below AM8.out hB)
    clear hQ hB HN HQc AM8 CM8
    have HN := Lib.hid (len_tf nd HQd.out AM9.out AP.out HLA.out)
    rw [← ha] at HN
    clear ha
    go_wp2_with fail
    refine HN.out.mono ?_
    rintro _ we ⟨rfl, hQ, hB⟩
    have HQe := Lib.hid hQ
    clear hQ hB HN HQd AM9
    go_wp2_with fail
    go_ret
    exact ⟨rfl, HB0.out.trans (HQe.out.fs.bel.mono HB0.out.size)⟩
  · have hxz : x.k = z.k := Classical.byContradiction fun h => hab (HGG.out h)
    rw [decide_eq_false hab] at qa
    have hkx := HXO.out.key
    rw [← hxz] at lz
    have qk : ∀ u y w, eqA .eql 24 u y w (.agg (bA x.k)) (.agg (bA x.k)) = .ok (.value (.bool true)) w := fun u y w => by rw [eqKey x.k x.k hkx hkx, decide_eq_true rfl]
    clear hab hxz hkx
    go_wp2_with fail
    refine HDC.out.mono ?_
    rintro _ wb ⟨rfl, hQ, hk⟩
    have HQb := Lib.hid hQ
    have AM7 := Lib.hid (HQa.out.msK nd AM6.out hk)
    have CM7 := Lib.hid (HQa.out.msK nd CM6.out hk)
    clear hQ hk HDC HQa AM6 CM6 lx lz qa
    have HD := Lib.hid (dig_tf nd HQb.out (by omega) AM7.out AP.out)
    rw [← HGA.out] at HD
    go_wp2_with fail
    refine HD.out.mono ?_
    rintro _ wc ⟨rfl, hQ, hk⟩
    have HQc := Lib.hid hQ
    have AM8 := Lib.hid (HQb.out.msK nd AM7.out hk)
    have CM8 := Lib.hid (HQb.out.msK nd CM7.out hk)
    clear hQ hk HD HQb AM7 CM7
    have HN := Lib.hid (len_tf nd HQc.out CM8.out CP.out (by rw [HCT.out]; exact HLA.out))
    rw [HCT.out] at HN
    obtain ⟨a, ha⟩ : ∃ a, a = lenT AT.tr := ⟨_, rfl⟩
    rw [← ha] at HN
    go_wp2_with fail
    refine HN.out.mono ?_
    rintro _ wd ⟨rfl, hQ, hB⟩
    have HQd := Lib.hid hQ
    have AM9 := Lib.hid (nd.below AM8.out hB)
    clear hQ hB HN HQc AM8 CM8
    have HN := Lib.hid (len_tf nd HQd.out AM9.out AP.out HLA.out)
    rw [← ha] at HN
    clear ha
    go_wp2_with fail
    refine HN.out.mono ?_
    rintro _ we ⟨rfl, hQ, hB⟩
    have HQe := Lib.hid hQ
    clear hQ hB HN HQd AM9
    go_wp2_with fail
    go_ret
    exact ⟨rfl, HB0.out.trans (HQe.out.fs.bel.mono HB0.out.size)⟩
set_option maxHeartbeats 16000000 in
set_option maxRecDepth 100000 in
theorem comm_longx {M : World → Int → Tv → Prop} (nd : NdV M) (fv : FnV M) (pv : PtV M) (n : Int) (A : Option Addr) (c : Nat) (es : List En) (x z : En) (W : World) (hA : EA W A es) (hl : es.length ≤ 12) (hvl : ∀ e ∈ es, e.v.length ≤ 1000) (hf : fewK (es.map En.ent) = true) (hvx : Vars W) (h0 : 0 ≤ n) (h1 : n ≤ 256) (hx : EnOk W x) (hz : EnOk W z) (hxl : 200 < x.v.length) (hzl : True) :
    Calls Tryd.prog 5 #[.int .i64 n, .slice A es.length c, .agg (enC x ++ enC z).toArray] W (Aye W) := by
  obtain ⟨X, hX⟩ : ∃ X, X = W.alloc (.cells (enC x ++ enC z).toArray 43) := ⟨_, rfl⟩
  have hb0 : Below W.heap.size W X := by rw [hX]; exact (Below.refl _ _).alloc (Nat.le_refl _) _
  have hkx : x.k.length = 32 := hx.key
  have hr0 : X.rangeAt W.heap.size 0 (enC x) := by
    rw [hX]
    intro j v hv
    rw [Nat.zero_add, cell_of_cells (heap_alloc_new W _), List.getElem?_toArray, List.getElem?_append_left (List.getElem?_eq_some_iff.1 hv).1]
    exact hv
  have hr1 : X.rangeAt W.heap.size 33 (enC z) := by
    rw [hX]
    intro j v hv
    rw [cell_of_cells (heap_alloc_new W _), List.getElem?_toArray, List.getElem?_append_right (by rw [enC_len hkx]; omega), enC_len hkx, show 33 + j - 33 = j by omega]
    exact hv
  have HR0 := Lib.hid hr0
  have HR1 := Lib.hid hr1
  have HXO := Lib.hid (hx.below hb0)
  have HZO := Lib.hid (hz.below hb0)
  have HXL := Lib.hid hxl
  have HZL := Lib.hid hzl
  have HXS : Hid (W.heap.size < X.heap.size) := by show _ < _; rw [hX]; simp
  clear hr0 hr1 hx hz hxl hzl hkx
  have HX := Lib.hid hX
  have HB0 := Lib.hid hb0
  have HT := Lib.hid (tree_in nd n A c es X (hA.below hb0) hl hvl hf (hvx.below hb0) h0 h1)
  have HVE : Hid (∀ e ∈ ofE es, e.v.length ≤ 1000) := fun e he => hvl e (ofE_mem he)
  have HLE : Hid ((ofE es).length ≤ 12) := Nat.le_trans (ofE_len es) hl
  clear hA hvl hf hvx hX hb0
  go_enter Tryd.func5, Tryd.ntmps5
  go_wp2_with fail
  rw [← HX.out]
  clear HX
  refine HT.out.mono ?_
  rintro _ w2 ⟨A2, c2, T, rfl, hc2, hI, hF⟩
  have HI := Lib.hid hI
  have HF2 := Lib.hid hF
  have HC2 := Lib.hid hc2
  obtain ⟨O, hO⟩ : ∃ O, O = ofE es := ⟨_, rfl⟩
  rw [← hO] at HI HF2 HVE HLE HC2 ⊢
  obtain ⟨pT, hpT⟩ := val_ptr nd hF.ms
  have HPT := Lib.hid hpT
  rw [hpT]
  have HH := Lib.hid (hash_in n w2 h0 h1)
  clear hc2 hI hF HT hO hpT
  go_wp2_with fail
  refine HH.out.mono ?_
  rintro _ w3 ⟨b, rfl, hbn, hH, hB⟩
  have HQ3 : Hid (Tf M X n A2 O T b 0 w3) := ⟨HF2.out.below nd hB, ⟨0, Nat.le_refl _, hH⟩, Nat.le_trans HF2.out.bel.size hbn⟩
  clear hH hbn hB HH HF2
  unfold ptr
  have HWB : Hid (W.heap.size < b) := by show _ < _; have := HXS.out; have := HQ3.out.new; omega
  have lv := range_val (range_below HR0.out HQ3.out.fs.bel) HXO.out.key
  rw [Nat.zero_add] at lv
  have lz := range_val (range_below HR1.out HQ3.out.fs.bel) HZO.out.key
  have e2x : decide (200 < (x.v.length : Int)) = true := decide_eq_true (by have := HXL.out; omega)
  have e1x : decide (200 < x.v.length) = true := decide_eq_true HXL.out
  have HAL := Lib.hid (alive9_c nd fv pv w3 HQ3.out.fs.vars)
  go_wp2_with fail
  refine HAL.out.mono ?_
  rintro _ w4 ⟨rfl, hB⟩
  have HQ4 := Lib.hid (HQ3.out.below nd hB)
  clear hB HAL HQ3
  go_wp2_with fail
  go_ret
  exact ⟨rfl, HB0.out.trans (HQ4.out.fs.bel.mono HB0.out.size)⟩
set_option maxHeartbeats 16000000 in
set_option maxRecDepth 100000 in
theorem comm_longz {M : World → Int → Tv → Prop} (nd : NdV M) (fv : FnV M) (pv : PtV M) (n : Int) (A : Option Addr) (c : Nat) (es : List En) (x z : En) (W : World) (hA : EA W A es) (hl : es.length ≤ 12) (hvl : ∀ e ∈ es, e.v.length ≤ 1000) (hf : fewK (es.map En.ent) = true) (hvx : Vars W) (h0 : 0 ≤ n) (h1 : n ≤ 256) (hx : EnOk W x) (hz : EnOk W z) (hxl : x.v.length ≤ 200) (hzl : 200 < z.v.length) :
    Calls Tryd.prog 5 #[.int .i64 n, .slice A es.length c, .agg (enC x ++ enC z).toArray] W (Aye W) := by
  obtain ⟨X, hX⟩ : ∃ X, X = W.alloc (.cells (enC x ++ enC z).toArray 43) := ⟨_, rfl⟩
  have hb0 : Below W.heap.size W X := by rw [hX]; exact (Below.refl _ _).alloc (Nat.le_refl _) _
  have hkx : x.k.length = 32 := hx.key
  have hr0 : X.rangeAt W.heap.size 0 (enC x) := by
    rw [hX]
    intro j v hv
    rw [Nat.zero_add, cell_of_cells (heap_alloc_new W _), List.getElem?_toArray, List.getElem?_append_left (List.getElem?_eq_some_iff.1 hv).1]
    exact hv
  have hr1 : X.rangeAt W.heap.size 33 (enC z) := by
    rw [hX]
    intro j v hv
    rw [cell_of_cells (heap_alloc_new W _), List.getElem?_toArray, List.getElem?_append_right (by rw [enC_len hkx]; omega), enC_len hkx, show 33 + j - 33 = j by omega]
    exact hv
  have HR0 := Lib.hid hr0
  have HR1 := Lib.hid hr1
  have HXO := Lib.hid (hx.below hb0)
  have HZO := Lib.hid (hz.below hb0)
  have HXL := Lib.hid hxl
  have HZL := Lib.hid hzl
  have HXS : Hid (W.heap.size < X.heap.size) := by show _ < _; rw [hX]; simp
  clear hr0 hr1 hx hz hxl hzl hkx
  have HX := Lib.hid hX
  have HB0 := Lib.hid hb0
  have HT := Lib.hid (tree_in nd n A c es X (hA.below hb0) hl hvl hf (hvx.below hb0) h0 h1)
  have HVE : Hid (∀ e ∈ ofE es, e.v.length ≤ 1000) := fun e he => hvl e (ofE_mem he)
  have HLE : Hid ((ofE es).length ≤ 12) := Nat.le_trans (ofE_len es) hl
  clear hA hvl hf hvx hX hb0
  go_enter Tryd.func5, Tryd.ntmps5
  go_wp2_with fail
  rw [← HX.out]
  clear HX
  refine HT.out.mono ?_
  rintro _ w2 ⟨A2, c2, T, rfl, hc2, hI, hF⟩
  have HI := Lib.hid hI
  have HF2 := Lib.hid hF
  have HC2 := Lib.hid hc2
  obtain ⟨O, hO⟩ : ∃ O, O = ofE es := ⟨_, rfl⟩
  rw [← hO] at HI HF2 HVE HLE HC2 ⊢
  obtain ⟨pT, hpT⟩ := val_ptr nd hF.ms
  have HPT := Lib.hid hpT
  rw [hpT]
  have HH := Lib.hid (hash_in n w2 h0 h1)
  clear hc2 hI hF HT hO hpT
  go_wp2_with fail
  refine HH.out.mono ?_
  rintro _ w3 ⟨b, rfl, hbn, hH, hB⟩
  have HQ3 : Hid (Tf M X n A2 O T b 0 w3) := ⟨HF2.out.below nd hB, ⟨0, Nat.le_refl _, hH⟩, Nat.le_trans HF2.out.bel.size hbn⟩
  clear hH hbn hB HH HF2
  unfold ptr
  have HWB : Hid (W.heap.size < b) := by show _ < _; have := HXS.out; have := HQ3.out.new; omega
  have lv := range_val (range_below HR0.out HQ3.out.fs.bel) HXO.out.key
  rw [Nat.zero_add] at lv
  have lz := range_val (range_below HR1.out HQ3.out.fs.bel) HZO.out.key
  have e2x : decide (200 < (x.v.length : Int)) = false := decide_eq_false (by have := HXL.out; omega)
  have e1x : decide (200 < x.v.length) = false := decide_eq_false (by have := HXL.out; omega)
  have e2z : decide (200 < (z.v.length : Int)) = true := decide_eq_true (by have := HZL.out; omega)
  have e1z : decide (200 < z.v.length) = true := decide_eq_true HZL.out
  have HAL := Lib.hid (alive9_c nd fv pv w3 HQ3.out.fs.vars)
  go_wp2_with fail
  refine HAL.out.mono ?_
  rintro _ w4 ⟨rfl, hB⟩
  have HQ4 := Lib.hid (HQ3.out.below nd hB)
  clear hB HAL HQ3
  go_wp2_with fail
  go_ret
  exact ⟨rfl, HB0.out.trans (HQ4.out.fs.bel.mono HB0.out.size)⟩
set_option maxHeartbeats 4000000 in
set_option maxRecDepth 100000 in
/-- Other bits, or entries that are not few: alive. -/
theorem comm_out {M : World → Int → Tv → Prop} (nd : NdV M) (fv : FnV M) (pv : PtV M) (n : Int) (A : Option Addr) (c : Nat) (es : List En) (x z : En) (W : World) (hA : EA W A es) (hvx : Vars W) (h : (n < 0 ∨ 256 < n) ∨ fewK (es.map En.ent) = false) :
    Calls Tryd.prog 5 #[.int .i64 n, .slice A es.length c, .agg (enC x ++ enC z).toArray] W (Aye W) := by
  obtain ⟨X, hX⟩ : ∃ X, X = W.alloc (.cells (enC x ++ enC z).toArray 43) := ⟨_, rfl⟩
  have hb0 : Below W.heap.size W X := by rw [hX]; exact (Below.refl _ _).alloc (Nat.le_refl _) _
  have HX := Lib.hid hX
  have HB0 := Lib.hid hb0
  have HVX := Lib.hid (hvx.below hb0)
  have HT := Lib.hid (tree_out n A c es X (hA.below hb0) h)
  have HAL := Lib.hid (fun w h => alive9_c nd fv pv w h)
  clear hA hvx h hX hb0
  go_enter Tryd.func5, Tryd.ntmps5
  go_wp2_with fail
  rw [← HX.out]
  clear HX
  refine HT.out.mono ?_
  rintro _ w2 ⟨rfl, hB⟩
  have HB := Lib.hid hB
  clear hB HT
  go_wp2_with fail
  refine (hash_any n w2).mono ?_
  rintro _ w3 ⟨p, rfl, hB⟩
  have HB3 := Lib.hid (HB.out.trans (hB.mono HB.out.size))
  clear hB HB
  go_wp2_with fail
  refine (HAL.out w3 (HVX.out.below HB3.out)).mono ?_
  rintro _ w4 ⟨rfl, hB⟩
  have HB4 := Lib.hid (HB3.out.trans (hB.mono HB3.out.size))
  clear hB
  go_wp2_with fail
  go_ret
  exact ⟨rfl, HB0.out.trans (HB4.out.mono HB0.out.size)⟩
end Go.Proofs.YtmgablpnggoabaaDoor

/- The laws of layer 9, their cases together. -/
namespace Go.Proofs.YtmgablpnggoabaaDoor
open Go.RowKit

/-- The entries are few, the number of bits right; or one of both is not so. -/
theorem few_cases (n : Int) (es : List En) : ((n < 0 ∨ 256 < n) ∨ fewK (es.map En.ent) = false) ∨ (0 ≤ n ∧ n ≤ 256 ∧ fewK (es.map En.ent) = true ∧ es.length ≤ 12 ∧ ∀ e ∈ es, e.v.length ≤ 1000) := by
  rcases Classical.em ((n < 0 ∨ 256 < n) ∨ fewK (es.map En.ent) = false) with h | h
  · exact .inl h
  · have hf : fewK (es.map En.ent) = true := by
      cases hq : fewK (es.map En.ent) with
      | true => rfl
      | false => exact absurd (.inr hq) h
    have hl := few_len hf
    rw [List.length_map] at hl
    exact .inr ⟨by omega, by omega, hf, hl, fun e he => Nat.le_trans (few_val hf e.ent (List.mem_map.2 ⟨e, he, rfl⟩)) (by decide)⟩
theorem puts_w {M : World → Int → Tv → Prop} (nd : NdV M) (fv : FnV M) (pv : PtV M) (n : Int) (A : Option Addr) (c : Nat) (es : List En) (x : En) (W : World) (hA : EA W A es) (hvx : Vars W) (hx : EnOk W x) : Calls Tryd.prog 3 #[.int .i64 n, .slice A es.length c, .agg (enC x).toArray] W (Aye W) := by
  rcases few_cases n es with h | ⟨h0, h1, hf, hl, hvl⟩
  · exact puts_out nd fv pv n A c es x W hA hvx h
  · rcases Nat.lt_or_ge 200 x.v.length with h2 | h2
    · exact puts_long nd fv pv n A c es x W hA hl hvl hf hvx h0 h1 hx h2
    · exact puts_in nd fv pv n A c es x W hA hl hvl hf hvx h0 h1 hx h2
theorem putall_w {M : World → Int → Tv → Prop} (nd : NdV M) (fv : FnV M) (pv : PtV M) (n : Int) (A : Option Addr) (c : Nat) (es : List En) (B : Option Addr) (d : Nat) (ms : List En) (W : World) (hA : EA W A es) (hvx : Vars W) (hB : EA W B ms) : Calls Tryd.prog 4 #[.int .i64 n, .slice A es.length c, .slice B ms.length d] W (Aye W) := by
  rcases few_cases n es with h | ⟨h0, h1, hf, hl, hvl⟩
  · exact putall_out nd fv pv n A c es B d ms W hA hvx h
  · cases hm : fewK (ms.map En.ent) with
    | true => exact putall_in nd fv pv n A c es B d ms W hA hl hvl hf hvx h0 h1 hB hm
    | false => exact putall_many nd fv pv n A c es B d ms W hA hl hvl hf hvx h0 h1 hB hm
theorem shares_w {M : World → Int → Tv → Prop} (nd : NdV M) (fv : FnV M) (pv : PtV M) (n : Int) (A : Option Addr) (c : Nat) (es : List En) (x : En) (W : World) (hA : EA W A es) (hvx : Vars W) (hx : EnOk W x) : Calls Tryd.prog 8 #[.int .i64 n, .slice A es.length c, .agg (enC x).toArray] W (Aye W) := by
  rcases few_cases n es with h | ⟨h0, h1, hf, hl, hvl⟩
  · exact shares_out nd fv pv n A c es x W hA hvx h
  · rcases Nat.lt_or_ge 200 x.v.length with h2 | h2
    · exact shares_long nd fv pv n A c es x W hA hl hvl hf hvx h0 h1 hx h2
    · exact shares_in nd fv pv n A c es x W hA hl hvl hf hvx h0 h1 hx h2
theorem comm_w {M : World → Int → Tv → Prop} (nd : NdV M) (fv : FnV M) (pv : PtV M) (n : Int) (A : Option Addr) (c : Nat) (es : List En) (x z : En) (W : World) (hA : EA W A es) (hvx : Vars W) (hx : EnOk W x) (hz : EnOk W z) : Calls Tryd.prog 5 #[.int .i64 n, .slice A es.length c, .agg (enC x ++ enC z).toArray] W (Aye W) := by
  rcases few_cases n es with h | ⟨h0, h1, hf, hl, hvl⟩
  · exact comm_out nd fv pv n A c es x z W hA hvx h
  · rcases Nat.lt_or_ge 200 x.v.length with h2 | h2
    · exact comm_longx nd fv pv n A c es x z W hA hl hvl hf hvx h0 h1 hx hz h2 trivial
    · rcases Nat.lt_or_ge 200 z.v.length with h3 | h3
      · exact comm_longz nd fv pv n A c es x z W hA hl hvl hf hvx h0 h1 hx hz h2 h3
      · exact comm_in nd fv pv n A c es x z W hA hl hvl hf hvx h0 h1 hx hz h2 h3
end Go.Proofs.YtmgablpnggoabaaDoor
