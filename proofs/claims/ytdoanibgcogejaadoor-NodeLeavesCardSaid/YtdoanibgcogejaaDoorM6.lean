/- Several texts in one: Na Nb Nc. -/
import Derived.Test.YtdoanibgcogejaaDoorMw
import Derived.Test.YtdoanibgcogejaaDoorMy
import Derived.Test.YtdoanibgcogejaaDoorRt
/- Hash of layer 7's law; the walk of NodeDigests over contracts. -/
namespace Go.Proofs.YtdoanibgcogejaaDoor
open Go.RowKit

set_option maxHeartbeats 1000000 in
set_option maxRecDepth 100000 in
theorem hash_in (n : Int) (w : World) (h0 : 0 ≤ n) (h1 : n ≤ 256) : Calls Tryd.prog 8 #[.int .i64 n] w fun e w' => ∃ b, e = .returned (ptr b) ∧ w.heap.size ≤ b ∧ Hs w' b n 0 ∧ Below w.heap.size w w' := by
  have HC := Lib.hid (new_c n w h0 h1)
  clear h0 h1
  go_enter Tryd.func8, Tryd.ntmps8
  go_wp2_with fail
  refine HC.out.mono ?_
  rintro _ w1 ⟨b, rfl, hb, hH, hB⟩
  have HP : Hid (w.heap.size ≤ b ∧ Hs w1 b n 0 ∧ Below w.heap.size w w1) := ⟨hb, hH, hB⟩
  clear hb hH hB
  go_wp2_with fail
  go_ret
  exact ⟨b, rfl, HP.out⟩
set_option maxHeartbeats 1000000 in
set_option maxRecDepth 100000 in
theorem hash_out (n : Int) (w : World) (h : n < 0 ∨ 256 < n) : Calls Tryd.prog 8 #[.int .i64 n] w fun e w' => e = .returned (.pointer none) ∧ Below w.heap.size w w' := by
  have HC := Lib.hid (out_c n w h)
  clear h
  go_enter Tryd.func8, Tryd.ntmps8
  go_wp2_with fail
  refine HC.out.mono ?_
  rintro _ w1 ⟨rfl, hB⟩
  have HB := Lib.hid hB
  clear hB
  go_wp2_with fail
  go_ret
  exact ⟨rfl, HB.out⟩
/-- The law's answer. -/
def Aye (W : World) (e : Ending) (w' : World) : Prop := e = .returned (.bool true) ∧ Below W.heap.size W w'
def Alive7 : Prop := ∀ w, Vars w → Calls Tryd.prog 11 #[] w (Aye w)
/-- What Digest keeps. -/
def DigestC (N : World → Int → Value → Tr → Prop) : Prop := ∀ (w : World) (b : Nat) (n : Int) (c : Nat) (v : Value) (t : Tr), Hs w b n c → c ≤ 1000000 → Vars w → N w n v t →
  Calls Tryd.prog 13 #[ptr b, v] w fun x w' => ∃ c', x = .returned (.agg (bA (digT n t))) ∧ c' ≤ c + 1 ∧ (t ≠ .nil → c' = c) ∧ Hs w' b n c' ∧ Keep (fun i => i = b) w w'
/-- A hasher that was made since: what was there is as it was. -/
theorem keep_new {W w w' : World} {b : Nat} (hB : Below W.heap.size W w) (hb : W.heap.size ≤ b) (k : Keep (fun i => i = b) w w') : Below W.heap.size W w' := hB.trans (k.below hB.size fun i hi => by have e : i = b := hi; omega)
set_option maxHeartbeats 8000000 in
set_option maxRecDepth 100000 in
theorem digests_in {N : World → Int → Value → Tr → Prop} (nd : NdC N) (dg : DigestC N) (ha : Alive7) (n : Int) (A : Option Addr) (c : Nat) (es : List En) (W : World) (hA : EA W A es) (hl : es.length ≤ 12) (hvl : ∀ e ∈ es, e.v.length ≤ 1000) (hf : fewK (es.map En.ent) = true) (hvx : Vars W) (h0 : 0 ≤ n) (h1 : n ≤ 256) :
    Calls Tryd.prog 3 #[.int .i64 n, .slice A es.length c] W (Aye W) := by
  have HR : Hid (∀ w, Calls Tryd.prog 9 #[.int .i64 n] w fun e w' => e = .returned (.bool true) ∧ w = w') := fun w => by
    have := right5_c n w
    rwa [decide_eq_true ⟨h0, h1⟩] at this
  have HFW : Hid (∀ w, EA w A es → Calls Tryd.prog 10 #[.slice A es.length c] w fun e w' => e = .returned (.bool true) ∧ w = w') := fun w h => by
    have := few7_c A c es w h
    rwa [hf] at this
  have HA := Lib.hid hA
  have HV := Lib.hid hvl
  have HVX := Lib.hid hvx
  have HH := Lib.hid (hash_in n W h0 h1)
  clear hA hvl hvx hf
  go_enter Tryd.func3, Tryd.ntmps3
  go_wp2_with fail
  refine HH.out.mono ?_
  rintro _ w1 ⟨b, rfl, hb, hH, hB⟩
  have HB := Lib.hid hB
  have HH1 := Lib.hid hH
  have HA1 := Lib.hid (HA.out.below hB)
  have HVX1 := Lib.hid (HVX.out.below hB)
  have HBB := Lib.hid hb
  clear hB hH hb HH
  go_wp2_with fail
  refine (HR.out w1).mono ?_
  rintro _ _ ⟨rfl, rfl⟩
  go_wp2_with fail
  refine (HFW.out w1 HA1.out).mono ?_
  rintro _ _ ⟨rfl, rfl⟩
  go_wp2_with fail
  refine (of7_c A c es w1 HA1.out (by omega)).mono ?_
  rintro _ w2 ⟨v2, rfl, hO2, hB2⟩
  obtain ⟨A2, c2, rfl, hc2, hE2⟩ := hO2.ea (fun e he => (HA1.out.mem e (ofE_mem he)).below hB2)
  have hln := ofE_len es
  have HB2 := Lib.hid (HB.out.trans (hB2.mono HB.out.size))
  have HH2 := Lib.hid (HH1.out.keep (Keep.of_below (L := fun _ => False) hB2) fun h => h)
  have HVX2 := Lib.hid (HVX1.out.below hB2)
  have HE2 := Lib.hid hE2
  obtain ⟨O, hO⟩ : ∃ O, O = ofE es := ⟨_, rfl⟩
  have HSEP : Hid (Sep 0 (O.map En.ent)) := by
    show Sep _ _
    rw [hO, ofE_ent]
    refine ofK_sep _ fun e he => ?_
    obtain ⟨x, hx, rfl⟩ := List.mem_map.1 he
    exact (HA1.out.mem x hx).key
  have HVO : Hid (∀ e ∈ O, e.v.length ≤ 1000) := fun e he => HV.out e (ofE_mem (by rw [← hO]; exact he))
  rw [← hO] at HE2 hln ⊢
  have HLO : Hid (O.length ≤ 12) := Nat.le_trans hln hl
  clear hO2 hc2 hE2 hB2 HH1 HVX1 HA1 HB hO hln
  go_wp2_with fail
  refine (ha w2 HVX2.out).mono ?_
  rintro _ w3 ⟨rfl, hB3⟩
  have HB3 := Lib.hid (HB2.out.trans (hB3.mono HB2.out.size))
  have HH3 := Lib.hid (HH2.out.keep (Keep.of_below (L := fun _ => False) hB3) fun h => h)
  have HVX3 := Lib.hid (HVX2.out.below hB3)
  have HE3 := Lib.hid (HE2.out.below hB3)
  clear hB3 HB2 HH2 HVX2 HE2
  go_wp2_with fail
  have hdeep : Deep 257 0 O.length := .inr ⟨by omega, by omega, by omega⟩
  have HD := Lib.hid hdeep
  have HTT := Lib.hid (grow_both n 257 (O.map En.ent) 0 HSEP.out (by rw [List.length_map]; exact hdeep)).2
  refine (grow_c nd n b 257 A2 c2 O 0 0 w3 HE3.out (by have := HLO.out; omega) HVO.out HD.out HH3.out HVX3.out (by have := HLO.out; omega)).mono ?_
  rintro _ w4 ⟨v, m4, rfl, hN4, hm4, hH4, hK4⟩
  obtain ⟨t, ht⟩ : ∃ t, t = growT 257 (O.map En.ent) 0 := ⟨_, rfl⟩
  rw [← ht] at hN4 HTT
  have HB4 := Lib.hid (keep_new HB3.out HBB.out hK4)
  have HE4 := Lib.hid (HH3.out.ea HE3.out hK4)
  have HVX4 := Lib.hid (HVX3.out.hs HH3.out hK4)
  have HH4 := Lib.hid hH4
  have HM4 : Hid (m4 ≤ 900000) := by show _ ≤ _; have := HLO.out; omega
  have HN4 := Lib.hid hN4
  clear hdeep hN4 hm4 hH4 hK4 ht HB3 HE3 HVX3 HH3
  go_wp2_with fail
  refine (dg w4 b n m4 v t HH4.out (by have := HM4.out; omega) HVX4.out HN4.out).mono ?_
  rintro _ w5 ⟨m5, rfl, hm5, hz5, hH5, hK5⟩
  have HB5 := Lib.hid (keep_new HB4.out HBB.out hK5)
  have HE5 := Lib.hid (HH4.out.ea HE4.out hK5)
  obtain ⟨g, hg⟩ : ∃ g, g = digT n t := ⟨_, rfl⟩
  have hgl : g.length = 32 := by rw [hg]; exact digT_len _ _
  rw [← hg] at HTT ⊢
  clear hm5 hz5 hH5 hK5 HB4 HE4 HVX4 HH4 HN4 hg
  go_wp2_with fail
  refine (root7_c n 257 A2 c2 O 0 w5 HE5.out (by have := HLO.out; omega) HVO.out HD.out).mono ?_
  rintro _ w6 ⟨rfl, hB6⟩
  have HB6 := Lib.hid (HB5.out.trans (hB6.mono HB5.out.size))
  rw [← HTT.out]
  have q : ∀ x y w, eqA .eql 30 x y w (.agg (bA g)) (.agg (bA g)) = .ok (.value (.bool true)) w := fun x y w => by rw [eqDig g g hgl hgl, decide_eq_true rfl]
  clear hB6 HB5 HE5
  go_wp2_with fail
  go_ret
  exact ⟨rfl, HB6.out⟩
set_option maxHeartbeats 4000000 in
set_option maxRecDepth 100000 in
/-- Other bits, or entries that are not few: alive. -/
theorem digests_out (ha : Alive7) (n : Int) (A : Option Addr) (c : Nat) (es : List En) (W : World) (hA : EA W A es) (hvx : Vars W) (h : (n < 0 ∨ 256 < n) ∨ fewK (es.map En.ent) = false) :
    Calls Tryd.prog 3 #[.int .i64 n, .slice A es.length c] W (Aye W) := by
  have HA := Lib.hid hA
  have HVX := Lib.hid hvx
  have HAL := Lib.hid ha
  clear hA hvx ha
  by_cases hn : n < 0 ∨ 256 < n
  · have HR : Hid (∀ w, Calls Tryd.prog 9 #[.int .i64 n] w fun e w' => e = .returned (.bool false) ∧ w = w') := fun w => by
      have := right5_c n w
      rwa [decide_eq_false (by omega)] at this
    have HH := Lib.hid (hash_out n W hn)
    clear hn h
    go_enter Tryd.func3, Tryd.ntmps3
    go_wp2_with fail
    refine HH.out.mono ?_
    rintro _ w1 ⟨rfl, hB⟩
    have HB := Lib.hid hB
    clear hB
    go_wp2_with fail
    refine (HR.out w1).mono ?_
    rintro _ _ ⟨rfl, rfl⟩
    go_wp2_with fail
    refine (HAL.out w1 (HVX.out.below HB.out)).mono ?_
    rintro _ w2 ⟨rfl, hB2⟩
    have HB2 := Lib.hid (HB.out.trans (hB2.mono HB.out.size))
    clear hB2
    go_wp2_with fail
    go_ret
    exact ⟨rfl, HB2.out⟩
  · have hf : fewK (es.map En.ent) = false := h.elim (fun h => absurd h hn) id
    have h0 : 0 ≤ n := by omega
    have h1 : n ≤ 256 := by omega
    have HR : Hid (∀ w, Calls Tryd.prog 9 #[.int .i64 n] w fun e w' => e = .returned (.bool true) ∧ w = w') := fun w => by
      have := right5_c n w
      rwa [decide_eq_true ⟨h0, h1⟩] at this
    have HFW : Hid (∀ w, EA w A es → Calls Tryd.prog 10 #[.slice A es.length c] w fun e w' => e = .returned (.bool false) ∧ w = w') := fun w h => by
      have := few7_c A c es w h
      rwa [hf] at this
    have HH := Lib.hid (hash_in n W h0 h1)
    clear hn h hf
    go_enter Tryd.func3, Tryd.ntmps3
    go_wp2_with fail
    refine HH.out.mono ?_
    rintro _ w1 ⟨b, rfl, hb, hH, hB⟩
    have HB := Lib.hid hB
    clear hB hH hb
    go_wp2_with fail
    refine (HR.out w1).mono ?_
    rintro _ _ ⟨rfl, rfl⟩
    go_wp2_with fail
    refine (HFW.out w1 (HA.out.below HB.out)).mono ?_
    rintro _ _ ⟨rfl, rfl⟩
    go_wp2_with fail
    refine (HAL.out w1 (HVX.out.below HB.out)).mono ?_
    rintro _ w2 ⟨rfl, hB2⟩
    have HB2 := Lib.hid (HB.out.trans (hB2.mono HB.out.size))
    clear hB2
    go_wp2_with fail
    go_ret
    exact ⟨rfl, HB2.out⟩
theorem few_len {l : List Ent} (h : fewK l = true) : l.length ≤ 12 := of_decide_eq_true (Bool.and_eq_true_iff.1 h).1
theorem few_val {l : List Ent} (h : fewK l = true) : ∀ e ∈ l, e.v.length ≤ 200 := fun e he => of_decide_eq_true (List.all_eq_true.1 (Bool.and_eq_true_iff.1 h).2 e he)
theorem digests_w {N : World → Int → Value → Tr → Prop} (nd : NdC N) (dg : DigestC N) (ha : Alive7) (n : Int) (A : Option Addr) (c : Nat) (es : List En) (W : World) (hA : EA W A es) (hvx : Vars W) :
    Calls Tryd.prog 3 #[.int .i64 n, .slice A es.length c] W (Aye W) := by
  rcases Classical.em ((n < 0 ∨ 256 < n) ∨ fewK (es.map En.ent) = false) with h | h
  · exact digests_out ha n A c es W hA hvx h
  · have hf : fewK (es.map En.ent) = true := by
      cases hq : fewK (es.map En.ent) with
      | true => rfl
      | false => exact absurd (.inr hq) h
    have hl := few_len hf
    rw [List.length_map] at hl
    exact digests_in nd dg ha n A c es W hA hl (fun e he => Nat.le_trans (few_val hf e.ent (List.mem_map.2 ⟨e, he, rfl⟩)) (by decide)) hf hvx (by omega) (by omega)
end Go.Proofs.YtdoanibgcogejaaDoor

/- The walk of NodeCaches over contracts. -/
namespace Go.Proofs.YtdoanibgcogejaaDoor
open Go.RowKit

def ForkC : Prop := ∀ (b : Nat) (n : Int) (c : Nat) (w : World), Hs w b n c → Calls Tryd.prog 25 #[ptr b] w fun e w' => ∃ b2, e = .returned (ptr b2) ∧ w.heap.size ≤ b2 ∧ Hs w' b2 n 0 ∧ Below w.heap.size w w'
def CallsC : Prop := ∀ (b : Nat) (n : Int) (c : Nat) (w : World), Hs w b n c → Calls Tryd.prog 26 #[ptr b] w fun e w' => e = .returned (.int .i64 (c : Int)) ∧ w = w'
set_option maxHeartbeats 8000000 in
set_option maxRecDepth 100000 in
theorem caches_in {N : World → Int → Value → Tr → Prop} (nd : NdC N) (dg : DigestC N) (fk : ForkC) (cl : CallsC) (ha : Alive7) (n : Int) (A : Option Addr) (c : Nat) (es : List En) (W : World) (hA : EA W A es) (hl : es.length ≤ 12) (hvl : ∀ e ∈ es, e.v.length ≤ 1000) (hf : fewK (es.map En.ent) = true) (hvx : Vars W) (h0 : 0 ≤ n) (h1 : n ≤ 256) :
    Calls Tryd.prog 5 #[.int .i64 n, .slice A es.length c] W (Aye W) := by
  have HR : Hid (∀ w, Calls Tryd.prog 9 #[.int .i64 n] w fun e w' => e = .returned (.bool true) ∧ w = w') := fun w => by
    have := right5_c n w
    rwa [decide_eq_true ⟨h0, h1⟩] at this
  have HFW : Hid (∀ w, EA w A es → Calls Tryd.prog 10 #[.slice A es.length c] w fun e w' => e = .returned (.bool true) ∧ w = w') := fun w h => by
    have := few7_c A c es w h
    rwa [hf] at this
  have HA := Lib.hid hA
  have HV := Lib.hid hvl
  have HVX := Lib.hid hvx
  have HH := Lib.hid (hash_in n W h0 h1)
  clear hA hvl hvx hf
  go_enter Tryd.func5, Tryd.ntmps5
  go_wp2_with fail
  refine HH.out.mono ?_
  rintro _ w1 ⟨b, rfl, hb, hH, hB⟩
  have HB := Lib.hid hB
  have HH1 := Lib.hid hH
  have HA1 := Lib.hid (HA.out.below hB)
  have HVX1 := Lib.hid (HVX.out.below hB)
  have HBB := Lib.hid hb
  clear hB hH hb HH
  go_wp2_with fail
  refine (HR.out w1).mono ?_
  rintro _ _ ⟨rfl, rfl⟩
  go_wp2_with fail
  refine (HFW.out w1 HA1.out).mono ?_
  rintro _ _ ⟨rfl, rfl⟩
  go_wp2_with fail
  refine (of7_c A c es w1 HA1.out (by omega)).mono ?_
  rintro _ w2 ⟨v2, rfl, hO2, hB2⟩
  obtain ⟨A2, c2, rfl, hc2, hE2⟩ := hO2.ea (fun e he => (HA1.out.mem e (ofE_mem he)).below hB2)
  have hln := ofE_len es
  have HB2 := Lib.hid (HB.out.trans (hB2.mono HB.out.size))
  have HH2 := Lib.hid (HH1.out.keep (Keep.of_below (L := fun _ => False) hB2) fun h => h)
  have HVX2 := Lib.hid (HVX1.out.below hB2)
  have HE2 := Lib.hid hE2
  obtain ⟨O, hO⟩ : ∃ O, O = ofE es := ⟨_, rfl⟩
  have HSEP : Hid (Sep 0 (O.map En.ent)) := by
    show Sep _ _
    rw [hO, ofE_ent]
    refine ofK_sep _ fun e he => ?_
    obtain ⟨x, hx, rfl⟩ := List.mem_map.1 he
    exact (HA1.out.mem x hx).key
  have HVO : Hid (∀ e ∈ O, e.v.length ≤ 1000) := fun e he => HV.out e (ofE_mem (by rw [← hO]; exact he))
  rw [← hO] at HE2 hln ⊢
  have HLO : Hid (O.length ≤ 12) := Nat.le_trans hln hl
  clear hO2 hc2 hE2 hB2 HH1 HVX1 HA1 HB hO hln
  go_wp2_with fail
  have hdeep : Deep 257 0 O.length := .inr ⟨by omega, by omega, by omega⟩
  have HD := Lib.hid hdeep
  have HTT := Lib.hid (grow_both n 257 (O.map En.ent) 0 HSEP.out (by rw [List.length_map]; exact hdeep)).2
  refine (grow_c nd n b 257 A2 c2 O 0 0 w2 HE2.out (by have := HLO.out; omega) HVO.out HD.out HH2.out HVX2.out (by have := HLO.out; omega)).mono ?_
  rintro _ w4 ⟨v, m4, rfl, hN4, hm4, hH4, hK4⟩
  obtain ⟨t, ht⟩ : ∃ t, t = growT 257 (O.map En.ent) 0 := ⟨_, rfl⟩
  rw [← ht] at hN4 HTT
  have HB4 := Lib.hid (keep_new HB2.out HBB.out hK4)
  have HE4 := Lib.hid (HH2.out.ea HE2.out hK4)
  have HVX4 := Lib.hid (HVX2.out.hs HH2.out hK4)
  have HH4 := Lib.hid hH4
  have HM4 : Hid (m4 ≤ 900000) := by show _ ≤ _; have := HLO.out; omega
  have HN4 := Lib.hid hN4
  have HTL : Hid (0 < O.length → t ≠ .nil) := fun h e => by
    have h1 := (grow_both n 257 (O.map En.ent) 0 HSEP.out (by rw [List.length_map]; exact hdeep)).1
    rw [← ht, e, List.length_map] at h1
    have h2 : (0 : Nat) = O.length := h1
    omega
  clear hdeep hN4 hm4 hH4 hK4 ht HB2 HE2 HVX2 HH2
  go_wp2_with fail
  refine (fk b n m4 w4 HH4.out).mono ?_
  rintro _ w5 ⟨b2, rfl, hb2, hF5, hB5⟩
  have hlt : b < w4.heap.size := lt_of_heap HH4.out
  have HNE : Hid (¬ b = b2) := by show ¬ _; omega
  have HB5 := Lib.hid (HB4.out.trans (hB5.mono HB4.out.size))
  have HBB2 : Hid (W.heap.size ≤ b2) := Nat.le_trans HB4.out.size hb2
  have HE5 := Lib.hid (HE4.out.below hB5)
  have HVX5 := Lib.hid (HVX4.out.below hB5)
  have HN5 := Lib.hid (nd.keep HN4.out HH4.out (Keep.of_below hB5))
  have HH5 := Lib.hid (HH4.out.keep (Keep.of_below (L := fun _ => False) hB5) fun h => h)
  have HF5 := Lib.hid hF5
  clear hb2 hF5 hB5 hlt HB4 HE4 HVX4 HN4 HH4
  go_wp2_with fail
  refine (dg w5 b2 n 0 v t HF5.out (by omega) HVX5.out HN5.out).mono ?_
  rintro _ w6 ⟨m6, rfl, hm6, hz6, hF6, hK6⟩
  obtain ⟨g, hg⟩ : ∃ g, g = digT n t := ⟨_, rfl⟩
  have hgl : g.length = 32 := by rw [hg]; exact digT_len _ _
  have HG := Lib.hid hg
  have HGL := Lib.hid hgl
  have HB6 := Lib.hid (keep_new HB5.out HBB2.out hK6)
  have HE6 := Lib.hid (HF5.out.ea HE5.out hK6)
  have HVX6 := Lib.hid (HVX5.out.hs HF5.out hK6)
  have HN6 := Lib.hid (nd.keep HN5.out HF5.out hK6)
  have HH6 := Lib.hid (HH5.out.keep hK6 HNE.out)
  have HF6 := Lib.hid hF6
  have HZ6 := Lib.hid hz6
  have HM6 := Lib.hid hm6
  rw [← hg] at HTT ⊢
  clear hm6 hz6 hF6 hK6 hg HB5 HE5 HVX5 HN5 HH5 HF5
  go_wp2_with fail
  refine (root7_c n 257 A2 c2 O 0 w6 HE6.out (by have := HLO.out; omega) HVO.out HD.out).mono ?_
  rintro _ w7 ⟨rfl, hB7⟩
  have HB7 := Lib.hid (HB6.out.trans (hB7.mono HB6.out.size))
  have HVX7 := Lib.hid (HVX6.out.below hB7)
  have HN7 := Lib.hid (nd.keep HN6.out HF6.out (Keep.of_below hB7))
  have HH7 := Lib.hid (HH6.out.keep (Keep.of_below (L := fun _ => False) hB7) fun h => h)
  have HF7 := Lib.hid (HF6.out.keep (Keep.of_below (L := fun _ => False) hB7) fun h => h)
  rw [← HTT.out]
  have q : ∀ x y w, eqA .neq 30 x y w (.agg (bA g)) (.agg (bA g)) = .ok (.value (.bool false)) w := fun x y w => by rw [neDig g g hgl hgl, decide_eq_true rfl]; rfl
  clear hB7 HB6 HE6 HVX6 HN6 HH6 HF6 hgl
  go_wp2_with fail
  refine (dg w7 b2 n m6 v t HF7.out (by have := HM6.out; omega) HVX7.out HN7.out).mono ?_
  rintro _ w8 ⟨m8, rfl, hm8, hz8, hF8, hK8⟩
  have HB8 := Lib.hid (keep_new HB7.out HBB2.out hK8)
  have HVX8 := Lib.hid (HVX7.out.hs HF7.out hK8)
  have HN8 := Lib.hid (nd.keep HN7.out HF7.out hK8)
  have HH8 := Lib.hid (HH7.out.keep hK8 HNE.out)
  have HF8 := Lib.hid hF8
  have HZ8 : Hid (t ≠ .nil → m8 = 0) := fun h => by have h1 := hz8 h; have h2 := HZ6.out h; omega
  rw [← HG.out]
  clear hm8 hz8 hF8 hK8 HB7 HVX7 HN7 HH7 HF7
  go_wp2_with fail
  refine (dg w8 b n m4 v t HH8.out (by have := HM4.out; omega) HVX8.out HN8.out).mono ?_
  rintro _ w9 ⟨m9, rfl, hm9, hz9, hH9, hK9⟩
  have HB9 := Lib.hid (keep_new HB8.out HBB.out hK9)
  have HVX9 := Lib.hid (HVX8.out.hs HH8.out hK9)
  have HF9 := Lib.hid (HF8.out.keep hK9 fun e => HNE.out e.symm)
  rw [← HG.out]
  clear hm9 hz9 hH9 hK9 HB8 HVX8 HN8 HH8 HF8
  go_wp2_with fail
  refine (ha w9 HVX9.out).mono ?_
  rintro _ wa ⟨rfl, hBa⟩
  have HBa := Lib.hid (HB9.out.trans (hBa.mono HB9.out.size))
  have HFa := Lib.hid (HF9.out.keep (Keep.of_below (L := fun _ => False) hBa) fun h => h)
  clear hBa HB9 HVX9 HF9 q
  rcases Nat.eq_zero_or_pos O.length with hz | hz
  · have b1 : ((O.length : Int) == 0) = true := beq_iff_eq.2 (by omega)
    have d1 : decide (O.length = 0) = true := decide_eq_true hz
    clear hz
    go_wp2_with fail
    go_ret
    exact ⟨rfl, HBa.out⟩
  · have b1 : ((O.length : Int) == 0) = false := beq_eq_false_iff_ne.2 (by omega)
    have d1 : decide (O.length = 0) = false := decide_eq_false (by omega)
    have hm8 : m8 = 0 := HZ8.out (HTL.out hz)
    subst hm8
    have HC := Lib.hid (cl b2 n 0 wa HFa.out)
    clear hz
    go_wp2_with fail
    refine HC.out.mono ?_
    rintro _ _ ⟨rfl, rfl⟩
    go_wp2_with fail
    go_ret
    exact ⟨rfl, HBa.out⟩
set_option maxHeartbeats 4000000 in
set_option maxRecDepth 100000 in
/-- Other bits, or entries that are not few: alive. -/
theorem caches_out (ha : Alive7) (n : Int) (A : Option Addr) (c : Nat) (es : List En) (W : World) (hA : EA W A es) (hvx : Vars W) (h : (n < 0 ∨ 256 < n) ∨ fewK (es.map En.ent) = false) :
    Calls Tryd.prog 5 #[.int .i64 n, .slice A es.length c] W (Aye W) := by
  have HA := Lib.hid hA
  have HVX := Lib.hid hvx
  have HAL := Lib.hid ha
  clear hA hvx ha
  by_cases hn : n < 0 ∨ 256 < n
  · have HR : Hid (∀ w, Calls Tryd.prog 9 #[.int .i64 n] w fun e w' => e = .returned (.bool false) ∧ w = w') := fun w => by
      have := right5_c n w
      rwa [decide_eq_false (by omega)] at this
    have HH := Lib.hid (hash_out n W hn)
    clear hn h
    go_enter Tryd.func5, Tryd.ntmps5
    go_wp2_with fail
    refine HH.out.mono ?_
    rintro _ w1 ⟨rfl, hB⟩
    have HB := Lib.hid hB
    clear hB
    go_wp2_with fail
    refine (HR.out w1).mono ?_
    rintro _ _ ⟨rfl, rfl⟩
    go_wp2_with fail
    refine (HAL.out w1 (HVX.out.below HB.out)).mono ?_
    rintro _ w2 ⟨rfl, hB2⟩
    have HB2 := Lib.hid (HB.out.trans (hB2.mono HB.out.size))
    clear hB2
    go_wp2_with fail
    go_ret
    exact ⟨rfl, HB2.out⟩
  · have hf : fewK (es.map En.ent) = false := h.elim (fun h => absurd h hn) id
    have h0 : 0 ≤ n := by omega
    have h1 : n ≤ 256 := by omega
    have HR : Hid (∀ w, Calls Tryd.prog 9 #[.int .i64 n] w fun e w' => e = .returned (.bool true) ∧ w = w') := fun w => by
      have := right5_c n w
      rwa [decide_eq_true ⟨h0, h1⟩] at this
    have HFW : Hid (∀ w, EA w A es → Calls Tryd.prog 10 #[.slice A es.length c] w fun e w' => e = .returned (.bool false) ∧ w = w') := fun w h => by
      have := few7_c A c es w h
      rwa [hf] at this
    have HH := Lib.hid (hash_in n W h0 h1)
    clear hn h hf
    go_enter Tryd.func5, Tryd.ntmps5
    go_wp2_with fail
    refine HH.out.mono ?_
    rintro _ w1 ⟨b, rfl, hb, hH, hB⟩
    have HB := Lib.hid hB
    clear hB hH hb
    go_wp2_with fail
    refine (HR.out w1).mono ?_
    rintro _ _ ⟨rfl, rfl⟩
    go_wp2_with fail
    refine (HFW.out w1 (HA.out.below HB.out)).mono ?_
    rintro _ _ ⟨rfl, rfl⟩
    go_wp2_with fail
    refine (HAL.out w1 (HVX.out.below HB.out)).mono ?_
    rintro _ w2 ⟨rfl, hB2⟩
    have HB2 := Lib.hid (HB.out.trans (hB2.mono HB.out.size))
    clear hB2
    go_wp2_with fail
    go_ret
    exact ⟨rfl, HB2.out⟩
theorem caches_w {N : World → Int → Value → Tr → Prop} (nd : NdC N) (dg : DigestC N) (fk : ForkC) (cl : CallsC) (ha : Alive7) (n : Int) (A : Option Addr) (c : Nat) (es : List En) (W : World) (hA : EA W A es) (hvx : Vars W) :
    Calls Tryd.prog 5 #[.int .i64 n, .slice A es.length c] W (Aye W) := by
  rcases Classical.em ((n < 0 ∨ 256 < n) ∨ fewK (es.map En.ent) = false) with h | h
  · exact caches_out ha n A c es W hA hvx h
  · have hf : fewK (es.map En.ent) = true := by
      cases hq : fewK (es.map En.ent) with
      | true => rfl
      | false => exact absurd (.inr hq) h
    have hl := few_len hf
    rw [List.length_map] at hl
    exact caches_in nd dg fk cl ha n A c es W hA hl (fun e he => Nat.le_trans (few_val hf e.ent (List.mem_map.2 ⟨e, he, rfl⟩)) (by decide)) hf hvx (by omega) (by omega)
end Go.Proofs.YtdoanibgcogejaaDoor

/- The walk of NodeKeeps over contracts. -/
namespace Go.Proofs.YtdoanibgcogejaaDoor
open Go.RowKit

def LenC (N : World → Int → Value → Tr → Prop) : Prop := ∀ (w : World) (n : Int) (v : Value) (t : Tr), N w n v t → lenT t ≤ 1000000000 → Calls Tryd.prog 22 #[v] w fun e w' => e = .returned (.int .i64 (lenT t : Int)) ∧ Below w.heap.size w w'
set_option maxHeartbeats 8000000 in
set_option maxRecDepth 100000 in
theorem keeps_in {N : World → Int → Value → Tr → Prop} (nd : NdC N) (dg : DigestC N) (ln : LenC N) (ha : Alive7) (n : Int) (A : Option Addr) (c : Nat) (es : List En) (x : En) (W : World) (hX : EnOk W x) (hxl : x.v.length ≤ 1000) (hA : EA W A es) (hl : es.length ≤ 12) (hvl : ∀ e ∈ es, e.v.length ≤ 1000) (hf : fewK (es.map En.ent) = true) (hvx : Vars W) (h0 : 0 ≤ n) (h1 : n ≤ 256) :
    Calls Tryd.prog 6 #[.int .i64 n, .slice A es.length c, .agg (enC x).toArray] W (Aye W) := by
  have HR : Hid (∀ w, Calls Tryd.prog 9 #[.int .i64 n] w fun e w' => e = .returned (.bool true) ∧ w = w') := fun w => by
    have := right5_c n w
    rwa [decide_eq_true ⟨h0, h1⟩] at this
  have HFW : Hid (∀ w, EA w A es → Calls Tryd.prog 10 #[.slice A es.length c] w fun e w' => e = .returned (.bool true) ∧ w = w') := fun w h => by
    have := few7_c A c es w h
    rwa [hf] at this
  obtain ⟨X, hXX⟩ : ∃ X, X = W.alloc (.cells (enC x).toArray 39) := ⟨_, rfl⟩
  have hb0 : Below W.heap.size W X := by rw [hXX]; exact (Below.refl _ _).alloc (Nat.le_refl _) _
  have hr0 : X.rangeAt W.heap.size 0 (enC x) := by rw [hXX]; exact ent_made W x _
  have HXX := Lib.hid hXX
  have HB0 := Lib.hid hb0
  have HXO := Lib.hid (hX.below hb0)
  have HXL := Lib.hid hxl
  have LV : Hid (∀ w', Below X.heap.size X w' → w'.cell? ⟨W.heap.size, 32, none⟩ = some (.slice x.A x.v.length x.c)) := fun w' h => by
    have := range_val (range_below hr0 h) hX.key
    rwa [Nat.zero_add] at this
  have HR0 := Lib.hid hr0
  have dx : decide (1000 < x.v.length) = false := decide_eq_false (by omega)
  have dx2 : decide (1000 < (x.v.length : Int)) = false := decide_eq_false (by omega)
  have HA := Lib.hid (hA.below hb0)
  have HV := Lib.hid hvl
  have HVX := Lib.hid (hvx.below hb0)
  have HH := Lib.hid (hash_in n X h0 h1)
  clear hA hvl hvx hf hX hxl hXX hb0 hr0
  go_enter Tryd.func6, Tryd.ntmps6
  go_wp2_with fail
  rw [← HXX.out]
  clear HXX
  refine HH.out.mono ?_
  rintro _ w1 ⟨b, rfl, hb, hH, hB⟩
  have HB := Lib.hid hB
  have HH1 := Lib.hid hH
  have HA1 := Lib.hid (HA.out.below hB)
  have HVX1 := Lib.hid (HVX.out.below hB)
  have HBB := Lib.hid hb
  clear hB hH hb HH
  go_wp2_with fail
  refine (HR.out w1).mono ?_
  rintro _ _ ⟨rfl, rfl⟩
  go_wp2_with fail
  refine (HFW.out w1 HA1.out).mono ?_
  rintro _ _ ⟨rfl, rfl⟩
  have lv := LV.out w1 HB.out
  go_wp2_with fail
  refine (of7_c A c es w1 HA1.out (by omega)).mono ?_
  rintro _ w2 ⟨v2, rfl, hO2, hB2⟩
  obtain ⟨A2, c2, rfl, hc2, hE2⟩ := hO2.ea (fun e he => (HA1.out.mem e (ofE_mem he)).below hB2)
  have hln := ofE_len es
  have HB2 := Lib.hid (HB.out.trans (hB2.mono HB.out.size))
  have HH2 := Lib.hid (HH1.out.keep (Keep.of_below (L := fun _ => False) hB2) fun h => h)
  have HVX2 := Lib.hid (HVX1.out.below hB2)
  have HE2 := Lib.hid hE2
  obtain ⟨O, hO⟩ : ∃ O, O = ofE es := ⟨_, rfl⟩
  have HSEP : Hid (Sep 0 (O.map En.ent)) := by
    show Sep _ _
    rw [hO, ofE_ent]
    refine ofK_sep _ fun e he => ?_
    obtain ⟨x, hx, rfl⟩ := List.mem_map.1 he
    exact (HA1.out.mem x hx).key
  have HVO : Hid (∀ e ∈ O, e.v.length ≤ 1000) := fun e he => HV.out e (ofE_mem (by rw [← hO]; exact he))
  rw [← hO] at HE2 hln ⊢
  have HLO : Hid (O.length ≤ 12) := Nat.le_trans hln hl
  clear hO2 hc2 hE2 hB2 HH1 HVX1 HA1 HB hO hln
  go_wp2_with fail
  have hdeep : Deep 257 0 O.length := .inr ⟨by omega, by omega, by omega⟩
  have HD := Lib.hid hdeep
  have HTT := Lib.hid (grow_both n 257 (O.map En.ent) 0 HSEP.out (by rw [List.length_map]; exact hdeep)).2
  refine (grow_c nd n b 257 A2 c2 O 0 0 w2 HE2.out (by have := HLO.out; omega) HVO.out HD.out HH2.out HVX2.out (by have := HLO.out; omega)).mono ?_
  rintro _ w4 ⟨v, m4, rfl, hN4, hm4, hH4, hK4⟩
  obtain ⟨t, ht⟩ : ∃ t, t = growT 257 (O.map En.ent) 0 := ⟨_, rfl⟩
  rw [← ht] at hN4 HTT
  have HB4 := Lib.hid (keep_new HB2.out HBB.out hK4)
  have HE4 := Lib.hid (HH2.out.ea HE2.out hK4)
  have HVX4 := Lib.hid (HVX2.out.hs HH2.out hK4)
  have HH4 := Lib.hid hH4
  have HM4 : Hid (m4 ≤ 900000) := by show _ ≤ _; have := HLO.out; omega
  have HN4 := Lib.hid hN4
  have HTL : Hid (lenT t = O.length) := by
    have h1 := (grow_both n 257 (O.map En.ent) 0 HSEP.out (by rw [List.length_map]; exact hdeep)).1
    rw [← ht, List.length_map] at h1
    exact h1
  clear hdeep hN4 hm4 hH4 hK4 ht HB2 HE2 HVX2 HH2
  have le := range_ent (w := w4) (range_below HR0.out HB4.out) HXO.out.key
  have HXO4 := Lib.hid (HXO.out.below HB4.out)
  have HT4 := Lib.hid HN4.out
  clear HN4
  go_wp2_with fail
  refine (nd.leaf w4 b n m4 x HH4.out (by have := HM4.out; omega) HVX4.out HXO4.out HXL.out).mono ?_
  rintro _ w5 ⟨v5, m5, rfl, hN5, hm5, hH5, hK5⟩
  have HB5 := Lib.hid (keep_new HB4.out HBB.out hK5)
  have HE5 := Lib.hid (HH4.out.ea HE4.out hK5)
  have HVX5 := Lib.hid (HVX4.out.hs HH4.out hK5)
  have HT5 := Lib.hid (nd.keep HT4.out HH4.out hK5)
  have HN5 := Lib.hid hN5
  have HM5 : Hid (m5 ≤ 900010) := by show _ ≤ _; have := HM4.out; omega
  have HH5 := Lib.hid hH5
  clear hN5 hm5 hH5 hK5 HB4 HE4 HVX4 HT4 HM4 HH4 le HXO4
  go_wp2_with fail
  refine (nd.join w5 b n m5 v v5 t (.leaf x.ent) HH5.out (by have := HM5.out; omega) HVX5.out HT5.out HN5.out (by have := HTL.out; have := HLO.out; simp only [lenT]; omega)).mono ?_
  rintro _ w6 ⟨v6, m6, rfl, hN6, hm6, hH6, hK6⟩
  have HB6 := Lib.hid (keep_new HB5.out HBB.out hK6)
  have HE6 := Lib.hid (HH5.out.ea HE5.out hK6)
  have HVX6 := Lib.hid (HVX5.out.hs HH5.out hK6)
  have HT6 := Lib.hid (nd.keep HT5.out HH5.out hK6)
  have HN6 := Lib.hid hN6
  have HM6 : Hid (m6 ≤ 900020) := by show _ ≤ _; have := HM5.out; omega
  have HH6 := Lib.hid hH6
  clear hN6 hm6 hH6 hK6 HB5 HE5 HVX5 HT5 HM5 HH5 HN5
  go_wp2_with fail
  refine (nd.join w6 b n m6 (.pointer none) v .nil t HH6.out (by have := HM6.out; omega) HVX6.out (nd.nil _ _) HT6.out (by have := HTL.out; have := HLO.out; simp only [lenT]; omega)).mono ?_
  rintro _ w7 ⟨v7, m7, rfl, hN7, hm7, hH7, hK7⟩
  have HB7 := Lib.hid (keep_new HB6.out HBB.out hK7)
  have HE7 := Lib.hid (HH6.out.ea HE6.out hK7)
  have HVX7 := Lib.hid (HVX6.out.hs HH6.out hK7)
  have HT7 := Lib.hid (nd.keep HT6.out HH6.out hK7)
  have HN7 := Lib.hid hN7
  have HM7 : Hid (m7 ≤ 900030) := by show _ ≤ _; have := HM6.out; omega
  have HH7 := Lib.hid hH7
  clear hN7 hm7 hH7 hK7 HB6 HE6 HVX6 HT6 HM6 HH6 HN6
  go_wp2_with fail
  refine (nd.join w7 b n m7 v7 v (joinT .nil t) t HH7.out (by have := HM7.out; omega) HVX7.out HN7.out HT7.out (by have := HTL.out; have := HLO.out; simp only [lenT, lenT_join]; omega)).mono ?_
  rintro _ w8 ⟨v8, m8, rfl, hN8, hm8, hH8, hK8⟩
  have HB8 := Lib.hid (keep_new HB7.out HBB.out hK8)
  have HE8 := Lib.hid (HH7.out.ea HE7.out hK8)
  have HVX8 := Lib.hid (HVX7.out.hs HH7.out hK8)
  have HT8 := Lib.hid (nd.keep HT7.out HH7.out hK8)
  have HN8 := Lib.hid hN8
  have HM8 : Hid (m8 ≤ 900040) := by show _ ≤ _; have := HM7.out; omega
  have HH8 := Lib.hid hH8
  clear hN8 hm8 hH8 hK8 HB7 HE7 HVX7 HT7 HM7 HH7 HN7
  go_wp2_with fail
  refine (ha w8 HVX8.out).mono ?_
  rintro _ w9 ⟨rfl, hB9⟩
  have HB9 := Lib.hid (HB8.out.trans (hB9.mono HB8.out.size))
  have HE9 := Lib.hid (HE8.out.below hB9)
  have HVX9 := Lib.hid (HVX8.out.below hB9)
  have HT9 := Lib.hid (nd.keep HT8.out HH8.out (Keep.of_below hB9))
  have HH9 := Lib.hid (HH8.out.keep (Keep.of_below (L := fun _ => False) hB9) fun h => h)
  clear hB9 HB8 HE8 HVX8 HT8 HH8 HN8
  go_wp2_with fail
  refine (dg w9 b n m8 v t HH9.out (by have := HM8.out; omega) HVX9.out HT9.out).mono ?_
  rintro _ wa ⟨ma, rfl, hma, hza, hHa, hKa⟩
  have HBa := Lib.hid (keep_new HB9.out HBB.out hKa)
  have HEa := Lib.hid (HH9.out.ea HE9.out hKa)
  have HTa := Lib.hid (nd.keep HT9.out HH9.out hKa)
  have HHa := Lib.hid hHa
  obtain ⟨g, hg⟩ : ∃ g, g = digT n t := ⟨_, rfl⟩
  have hgl : g.length = 32 := by rw [hg]; exact digT_len _ _
  rw [← hg] at HTT ⊢
  clear hma hza hHa hKa HB9 HE9 HVX9 HT9 HH9 hg
  go_wp2_with fail
  refine (root7_c n 257 A2 c2 O 0 wa HEa.out (by have := HLO.out; omega) HVO.out HD.out).mono ?_
  rintro _ wb ⟨rfl, hBb⟩
  have HBb := Lib.hid (HBa.out.trans (hBb.mono HBa.out.size))
  have HTb := Lib.hid (nd.keep HTa.out HHa.out (Keep.of_below hBb))
  rw [← HTT.out]
  have q : ∀ x y w, eqA .eql 30 x y w (.agg (bA g)) (.agg (bA g)) = .ok (.value (.bool true)) w := fun x y w => by rw [eqDig g g hgl hgl, decide_eq_true rfl]
  clear hBb HBa HEa HTa HHa
  go_wp2_with fail
  have HC := Lib.hid (ln wb n v t HTb.out (by have := HTL.out; have := HLO.out; omega))
  rw [HTL.out] at HC
  refine HC.out.mono ?_
  rintro _ wc ⟨rfl, hBc⟩
  have HBc := Lib.hid (HBb.out.trans (hBc.mono HBb.out.size))
  have bl : ((O.length : Int) == (O.length : Int)) = true := beq_self_eq_true _
  clear hBc HBb HTb q
  go_wp2_with fail
  go_ret
  exact ⟨rfl, HB0.out.trans (HBc.out.mono HB0.out.size)⟩
set_option maxHeartbeats 4000000 in
set_option maxRecDepth 100000 in
/-- Other bits, or entries that are not few: alive. -/
theorem keeps_out (ha : Alive7) (n : Int) (A : Option Addr) (c : Nat) (es : List En) (x : En) (W : World) (hX : EnOk W x) (hA : EA W A es) (hvx : Vars W) (h : (n < 0 ∨ 256 < n) ∨ fewK (es.map En.ent) = false ∨ 1000 < x.v.length) :
    Calls Tryd.prog 6 #[.int .i64 n, .slice A es.length c, .agg (enC x).toArray] W (Aye W) := by
  obtain ⟨X, hXX⟩ : ∃ X, X = W.alloc (.cells (enC x).toArray 39) := ⟨_, rfl⟩
  have hb0 : Below W.heap.size W X := by rw [hXX]; exact (Below.refl _ _).alloc (Nat.le_refl _) _
  have hr0 : X.rangeAt W.heap.size 0 (enC x) := by rw [hXX]; exact ent_made W x _
  have HXX := Lib.hid hXX
  have HB0 := Lib.hid hb0
  have LV : Hid (∀ w', Below X.heap.size X w' → w'.cell? ⟨W.heap.size, 32, none⟩ = some (.slice x.A x.v.length x.c)) := fun w' h => by
    have := range_val (range_below hr0 h) hX.key
    rwa [Nat.zero_add] at this
  have HA := Lib.hid (hA.below hb0)
  have HVX := Lib.hid (hvx.below hb0)
  have HAL := Lib.hid ha
  clear hA hvx ha hX hXX hb0 hr0
  by_cases hn : n < 0 ∨ 256 < n
  · have HR : Hid (∀ w, Calls Tryd.prog 9 #[.int .i64 n] w fun e w' => e = .returned (.bool false) ∧ w = w') := fun w => by
      have := right5_c n w
      rwa [decide_eq_false (by omega)] at this
    have HH := Lib.hid (hash_out n X hn)
    clear hn h
    go_enter Tryd.func6, Tryd.ntmps6
    go_wp2_with fail
    rw [← HXX.out]
    clear HXX
    refine HH.out.mono ?_
    rintro _ w1 ⟨rfl, hB⟩
    have HB := Lib.hid hB
    clear hB
    go_wp2_with fail
    refine (HR.out w1).mono ?_
    rintro _ _ ⟨rfl, rfl⟩
    go_wp2_with fail
    refine (HAL.out w1 (HVX.out.below HB.out)).mono ?_
    rintro _ w2 ⟨rfl, hB2⟩
    have HB2 := Lib.hid (HB.out.trans (hB2.mono HB.out.size))
    clear hB2
    go_wp2_with fail
    go_ret
    exact ⟨rfl, HB0.out.trans (HB2.out.mono HB0.out.size)⟩
  · have hf := h.elim (fun h => absurd h hn) id
    have h0 : 0 ≤ n := by omega
    have h1 : n ≤ 256 := by omega
    have HR : Hid (∀ w, Calls Tryd.prog 9 #[.int .i64 n] w fun e w' => e = .returned (.bool true) ∧ w = w') := fun w => by
      have := right5_c n w
      rwa [decide_eq_true ⟨h0, h1⟩] at this
    have HFW : Hid (∀ w, EA w A es → Calls Tryd.prog 10 #[.slice A es.length c] w fun e w' => e = .returned (.bool (fewK (es.map En.ent))) ∧ w = w') := fun w h => few7_c A c es w h
    have HH := Lib.hid (hash_in n X h0 h1)
    clear hn h
    go_enter Tryd.func6, Tryd.ntmps6
    go_wp2_with fail
    rw [← HXX.out]
    clear HXX
    refine HH.out.mono ?_
    rintro _ w1 ⟨b, rfl, hb, hH, hB⟩
    have HB := Lib.hid hB
    clear hB hH hb
    go_wp2_with fail
    refine (HR.out w1).mono ?_
    rintro _ _ ⟨rfl, rfl⟩
    go_wp2_with fail
    refine (HFW.out w1 (HA.out.below HB.out)).mono ?_
    rintro _ _ ⟨rfl, rfl⟩
    have lv := LV.out w1 HB.out
    cases hq : fewK (es.map En.ent) with
    | false =>
      clear hf
      go_wp2_with fail
      refine (HAL.out w1 (HVX.out.below HB.out)).mono ?_
      rintro _ w2 ⟨rfl, hB2⟩
      have HB2 := Lib.hid (HB.out.trans (hB2.mono HB.out.size))
      clear hB2
      go_wp2_with fail
      go_ret
      exact ⟨rfl, HB0.out.trans (HB2.out.mono HB0.out.size)⟩
    | true =>
      have hx : 1000 < x.v.length := hf.elim (fun h => by rw [hq] at h; cases h) id
      have dx : decide (1000 < x.v.length) = true := decide_eq_true hx
      have dx2 : decide (1000 < (x.v.length : Int)) = true := decide_eq_true (by omega)
      clear hf hx
      go_wp2_with fail
      refine (HAL.out w1 (HVX.out.below HB.out)).mono ?_
      rintro _ w2 ⟨rfl, hB2⟩
      have HB2 := Lib.hid (HB.out.trans (hB2.mono HB.out.size))
      clear hB2
      go_wp2_with fail
      go_ret
      exact ⟨rfl, HB0.out.trans (HB2.out.mono HB0.out.size)⟩
theorem keeps_w {N : World → Int → Value → Tr → Prop} (nd : NdC N) (dg : DigestC N) (ln : LenC N) (ha : Alive7) (n : Int) (A : Option Addr) (c : Nat) (es : List En) (x : En) (W : World) (hX : EnOk W x) (hA : EA W A es) (hvx : Vars W) :
    Calls Tryd.prog 6 #[.int .i64 n, .slice A es.length c, .agg (enC x).toArray] W (Aye W) := by
  rcases Classical.em ((n < 0 ∨ 256 < n) ∨ fewK (es.map En.ent) = false ∨ 1000 < x.v.length) with h | h
  · exact keeps_out ha n A c es x W hX hA hvx h
  · have hf : fewK (es.map En.ent) = true := by
      cases hq : fewK (es.map En.ent) with
      | true => rfl
      | false => exact absurd (.inr (.inl hq)) h
    have hl := few_len hf
    rw [List.length_map] at hl
    exact keeps_in nd dg ln ha n A c es x W hX (Nat.le_of_not_lt fun h1 => h (.inr (.inr h1))) hA hl (fun e he => Nat.le_trans (few_val hf e.ent (List.mem_map.2 ⟨e, he, rfl⟩)) (by decide)) hf hvx (by omega) (by omega)
end Go.Proofs.YtdoanibgcogejaaDoor
