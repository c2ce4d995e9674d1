import Derived.Test.YtmfbhohjpkmllaaGreatDoorMM
import Derived.Test.YtmfbhohjpkmllaaGreatDoorM6
import Derived.Test.YtmfbhohjpkmllaaGreatDoorM3
import Derived.Test.YtmfbhohjpkmllaaGreatDoorTG
namespace Go.Proofs.YtmfbhohjpkmllaaGreatDoor
set_option linter.unusedSimpArgs false
set_option linter.unusedVariables false
set_option maxHeartbeats 8000000
set_option maxRecDepth 100000
section
open Go.RowKit
end
section
open Go.RowKit
theorem comK_c (a b : List UInt8) (ha : a.length = 32) (hb : b.length = 32) (w : World) : Calls Tryz.prog 68 #[.agg (bA a), .agg (bA b)] w fun e w' => e = .returned (.int .i64 (comK a b)) ∧ Below w.heap.size w w' := by
 rw [bA_key a ha, bA_key b hb]
 exact Bt.rcommon_c (keyF a) (keyF b) (keyF_byt a) (keyF_byt b) w
end
section
open Go.RowKit
instance : DecidableEq Ent := fun a b => if h : a.k = b.k ∧ a.v = b.v then isTrue (by cases a; cases b; obtain ⟨rfl, rfl⟩ := h; rfl) else isFalse fun e => h ⟨congrArg Ent.k e, congrArg Ent.v e⟩
theorem map_take_succ {es : List En} {m : Nat} {e : En} (h : es[m]? = some e) : (es.take (m + 1)).map En.ent = (es.take m).map En.ent ++ [e.ent] := by
 rw [take_some h, List.map_append]
 rfl
end
section
open Go.RowKit
structure IsMap (l : List Ent) (T : Tv) : Prop where
 sep : Sep 0 l
 tr : T.tr = growT 257 l 0
theorem IsMap.at {l : List Ent} {T : Tv} (h : IsMap l T) (k : List UInt8) : At l k 0 T := At.top k h.tr
def PA (w : World) (A : Option Addr) (ts : List Tv) : Prop := ∀ i T, ts[i]? = some T → ∃ g o, A = some ⟨g, o, none⟩ ∧ w.cell? ⟨g, o + i, none⟩ = some T.val
theorem PA.below {w w' : World} {A : Option Addr} {ts : List Tv} (h : PA w A ts) (hb : Below w.heap.size w w') : PA w' A ts := fun i T hi => by
 obtain ⟨g, o, rfl, h1⟩ := h i T hi
 exact ⟨g, o, rfl, by rw [hb.cell (lt_of_cell h1)]; exact h1⟩
theorem Hs.pa {w w' : World} {b : Nat} {n : Int} {c : Nat} {A : Option Addr} {ts : List Tv} (h : Hs w b n c) (hA : PA w A ts) (hv : ∀ T ∈ ts, ∃ a, T.val = .pointer a) (k : Keep (fun i => i = b) w w') : PA w' A ts := fun i T hi => by
 obtain ⟨g, o, rfl, h1⟩ := hA i T hi
 refine ⟨g, o, rfl, k.cellAt h1 fun e => ?_⟩
 have e3 : g = b := e
 subst e3
 obtain ⟨a, ha⟩ := hv T (List.mem_of_getElem? hi)
 rw [cell_of_cells h, ha] at h1
 obtain ⟨q, hq⟩ : ∃ q, q = o + i := ⟨_, rfl⟩
 rw [← hq] at h1
 match q, h1 with
 | 0, h1 => cases h1
 | 1, h1 => cases h1
 | q + 2, h1 => simp at h1
def getT (t : Tr) (k : List UInt8) : Option Ent :=
 match t with
 | .leaf e => if e.k = k then some e else none
 | _ => none
structure FnV (M : World → Int → Tv → Prop) : Prop where
 locate : ∀ (w : World) (n : Int) (l : List Ent) (T : Tv) (k : List UInt8), M w n T → IsMap l T → k.length = 32 →
  Calls Tryz.prog 30 #[T.val, .agg (bA k)] w fun e w' => e = .returned (.tuple #[(T.fin k 0).val, .int .i64 ((T.dep k 0 : Nat) : Int)]) ∧ Below w.heap.size w w'
 child : ∀ (w : World) (n : Int) (T : Tv) (b : Int), M w n T → Calls Tryz.prog 82 #[T.val, .int .i64 b] w fun e w' => e = .returned (T.child b).val ∧ Below w.heap.size w w'
theorem ms_way {M : World → Int → Tv → Prop} (nd : NdV M) {w : World} {n : Int} (k : List UInt8) : ∀ (T : Tv) (d : Nat), M w n T → ∀ S ∈ T.way k d, M w n S
 | .nil, _, h, S, hS => by
  rw [show S = .nil by simpa [Tv.way] using hS]; exact h
 | .leaf v e, _, h, S, hS => by
  rw [show S = .leaf v e by simpa [Tv.way] using hS]; exact h
 | .inner v a b, d, h, S, hS => by
  obtain ⟨ha, hb⟩ := nd.kids h
  unfold Tv.way at hS
  rcases List.mem_cons.1 hS with rfl | hS
  ·exact h
  ·by_cases hb0 : bitK k d = 0
   ·rw [if_pos hb0] at hS; exact ms_way nd k a (d + 1) ha S hS
   ·rw [if_neg hb0] at hS; exact ms_way nd k b (d + 1) hb S hS
theorem ms_sibs {M : World → Int → Tv → Prop} (nd : NdV M) {w : World} {n : Int} (k : List UInt8) : ∀ (T : Tv) (d : Nat), M w n T → ∀ S ∈ T.sibs k d, M w n S
 | .nil, _, _, S, hS => by simp [Tv.sibs] at hS
 | .leaf _ _, _, _, S, hS => by simp [Tv.sibs] at hS
 | .inner v a b, d, h, S, hS => by
  obtain ⟨ha, hb⟩ := nd.kids h
  unfold Tv.sibs at hS
  by_cases hb0 : bitK k d = 0
  ·rw [if_pos hb0] at hS
   rcases List.mem_cons.1 hS with rfl | hS
   ·exact hb
   ·exact ms_sibs nd k a (d + 1) ha S hS
  ·rw [if_neg hb0] at hS
   rcases List.mem_cons.1 hS with rfl | hS
   ·exact ha
   ·exact ms_sibs nd k b (d + 1) hb S hS
theorem ms_fin {M : World → Int → Tv → Prop} (nd : NdV M) {w : World} {n : Int} (k : List UInt8) {T : Tv} {d : Nat} (h : M w n T) : M w n (T.fin k d) :=
 ms_way nd k T d h _ (List.mem_of_getElem? (way_last k T d))
theorem val_ptr {M : World → Int → Tv → Prop} (nd : NdV M) {w : World} {n : Int} {T : Tv} (h : M w n T) : ∃ a, T.val = .pointer a := by
 rcases nd.addr h with rfl | ⟨a, ha⟩
 ·exact ⟨none, rfl⟩
 ·exact ⟨_, ha⟩
structure Fs (M : World → Int → Tv → Prop) (W : World) (n : Int) (A : Option Addr) (m : List En) (T : Tv) (w : World) : Prop where
 bel : Below W.heap.size W w
 vars : Vars w
 ea : EA w A m
 ms : M w n T
theorem Fs.below {M : World → Int → Tv → Prop} (nd : NdV M) {W w w' : World} {n : Int} {A : Option Addr} {m : List En} {T : Tv} (h : Fs M W n A m T w) (hb : Below w.heap.size w w') : Fs M W n A m T w' :=
 ⟨h.bel.trans (hb.mono h.bel.size), h.vars.below hb, h.ea.below hb, nd.below h.ms hb⟩
theorem Fs.hs {M : World → Int → Tv → Prop} (nd : NdV M) {W w w' : World} {n : Int} {A : Option Addr} {m : List En} {T : Tv} (h : Fs M W n A m T w) {b : Nat} {k : Int} {c : Nat} (hh : Hs w b k c) (hb : W.heap.size ≤ b) (hk : Keep (fun i => i = b) w w') : Fs M W n A m T w' :=
 ⟨keep_new h.bel hb hk, h.vars.hs hh hk, hh.ea h.ea hk, nd.hs h.ms hh hk⟩
theorem tree_in {M : World → Int → Tv → Prop} (nd : NdV M) (n : Int) (A : Option Addr) (c : Nat) (es : List En) (W : World) (hA : EA W A es) (hl : es.length ≤ 12) (hvl : ∀ e ∈ es, e.v.length ≤ 1000) (hf : fewK (es.map En.ent) = true) (hvx : Vars W) (h0 : 0 ≤ n) (h1 : n ≤ 256) :
  Calls Tryz.prog 9 #[.int .i64 n, .slice A es.length c] W fun e w' => ∃ A' c' T, e = .returned (.tuple #[.slice A' (ofE es).length c', T.val, .bool true]) ∧ (ofE es).length ≤ c' ∧ IsMap ((ofE es).map En.ent) T ∧ Fs M W n A' (ofE es) T w' := by
 have HR : Hid (∀ w, Calls Tryz.prog 20 #[.int .i64 n] w fun e w' => e = .returned (.bool true) ∧ w = w') := fun w => by
  have := right5_c n w
  rwa [decide_eq_true ⟨h0, h1⟩] at this
 have HFW : Hid (∀ w, EA w A es → Calls Tryz.prog 33 #[.slice A es.length c] w fun e w' => e = .returned (.bool true) ∧ w = w') := fun w h => by
  have := few7_c A c es w h
  rwa [hf] at this
 have HA := Lib.hid hA
 have HV := Lib.hid hvl
 have HVX := Lib.hid hvx
 have HH := Lib.hid (hash_in n W h0 h1)
 clear hA hvl hvx hf
 go_enter Tryz.func9, Tryz.ntmps9
 go_wp2_with fail
 refine (HR.out W).mono ?_
 rintro _ _ ⟨rfl, rfl⟩
 go_wp2_with fail
 refine (HFW.out W HA.out).mono ?_
 rintro _ _ ⟨rfl, rfl⟩
 go_wp2_with fail
 refine HH.out.mono ?_
 rintro _ w1 ⟨b, rfl, hb, hH, hB⟩
 have HB := Lib.hid hB
 have HH1 := Lib.hid hH
 have HA1 := Lib.hid (HA.out.below hB)
 have HVX1 := Lib.hid (HVX.out.below hB)
 have HBB := Lib.hid hb
 clear hB hH hb HH
 go_wp2_with fail
 refine (of7_c A c es w1 HA1.out (by omega)).mono ?_
 rintro _ w2 ⟨v2, rfl, hO2, hB2⟩
 obtain ⟨A2, c2, rfl, hc2, hE2⟩ := hO2.ea (fun e he => (HA1.out.mem e (ofE_mem he)).below hB2)
 have hln := ofE_len es
 have HB2 := Lib.hid (HB.out.trans (hB2.mono HB.out.size))
 have HH2 := Lib.hid (HH1.out.keep (Keep.of_below (L := fun _ => False) hB2) fun h => h)
 have HVX2 := Lib.hid (HVX1.out.below hB2)
 have HE2 := Lib.hid hE2
 have HC2 := Lib.hid hc2
 obtain ⟨O, hO⟩ : ∃ O, O = ofE es := ⟨_, rfl⟩
 have HSEP : Hid (Sep 0 (O.map En.ent)) := by
  show Sep _ _
  rw [hO, ofE_ent]
  refine ofK_sep _ fun e he => ?_
  obtain ⟨x, hx, rfl⟩ := List.mem_map.1 he
  exact (HA1.out.mem x hx).key
 have HVO : Hid (∀ e ∈ O, e.v.length ≤ 1000) := fun e he => HV.out e (ofE_mem (by rw [← hO]; exact he))
 rw [← hO] at HE2 hln HC2 ⊢
 have HLO : Hid (O.length ≤ 12) := Nat.le_trans hln hl
 have HOO := Lib.hid hO
 clear hO2 hc2 hE2 hB2 HH1 HVX1 HA1 HB hO hln
 go_wp2_with fail
 have hdeep : Deep 257 0 O.length := .inr ⟨by omega, by omega, by omega⟩
 refine (grow_c nd.c n b 257 A2 c2 O 0 0 w2 HE2.out (by have := HLO.out; omega) HVO.out hdeep HH2.out HVX2.out (by have := HLO.out; omega)).mono ?_
 rintro _ w4 ⟨_, m4, rfl, ⟨T, rfl, hT, hM⟩, hm4, hH4, hK4⟩
 have HP : Hid (IsMap (O.map En.ent) T ∧ Fs M W n A2 O T w4) := ⟨⟨HSEP.out, hT⟩, ⟨keep_new HB2.out HBB.out hK4, HVX2.out.hs HH2.out hK4, HH2.out.ea HE2.out hK4, hM⟩⟩
 clear hT hM hm4 hH4 hK4 hdeep
 go_wp2_with fail
 go_ret3
 rw [← HOO.out]
 exact ⟨A2, c2, T, rfl, HC2.out, HP.out⟩
theorem tree_out (n : Int) (A : Option Addr) (c : Nat) (es : List En) (W : World) (hA : EA W A es) (h : (n < 0 ∨ 256 < n) ∨ fewK (es.map En.ent) = false) :
  Calls Tryz.prog 9 #[.int .i64 n, .slice A es.length c] W fun e w' => e = .returned (.tuple #[.slice none 0 0, .pointer none, .bool false]) ∧ Below W.heap.size W w' := by
 have HA := Lib.hid hA
 clear hA
 by_cases hn : n < 0 ∨ 256 < n
 ·have HR : Hid (∀ w, Calls Tryz.prog 20 #[.int .i64 n] w fun e w' => e = .returned (.bool false) ∧ w = w') := fun w => by
   have := right5_c n w
   rwa [decide_eq_false (by omega)] at this
  clear hn h
  go_enter Tryz.func9, Tryz.ntmps9
  go_wp2_with fail
  refine (HR.out W).mono ?_
  rintro _ _ ⟨rfl, rfl⟩
  go_wp2_with fail
  go_ret3
  exact ⟨rfl, Below.refl _ _⟩
 ·have hf := h.elim (fun h => absurd h hn) id
  have HR : Hid (∀ w, Calls Tryz.prog 20 #[.int .i64 n] w fun e w' => e = .returned (.bool true) ∧ w = w') := fun w => by
   have := right5_c n w
   rwa [decide_eq_true (by omega)] at this
  have HFW : Hid (∀ w, EA w A es → Calls Tryz.prog 33 #[.slice A es.length c] w fun e w' => e = .returned (.bool false) ∧ w = w') := fun w h => by
   have := few7_c A c es w h
   rwa [hf] at this
  clear hn h hf
  go_enter Tryz.func9, Tryz.ntmps9
  go_wp2_with fail
  refine (HR.out W).mono ?_
  rintro _ _ ⟨rfl, rfl⟩
  go_wp2_with fail
  refine (HFW.out W HA.out).mono ?_
  rintro _ _ ⟨rfl, rfl⟩
  go_wp2_with fail
  go_ret3
  exact ⟨rfl, Below.refl _ _⟩
end
section
open Go.RowKit
theorem ea_row {w : World} {g : Nat} {T : TypeId} {fr : Nat × Nat} {es : List En} (h : w.heap[g]? = some (.cells (es.flatMap enC).toArray T fr)) (hes : ∀ e ∈ es, EnOk w e) : EA w (some ⟨g, 0, none⟩) es := fun i e hi => by
 refine ⟨hes e (List.mem_of_getElem? hi), g, 0, rfl, fun j v hv => ?_⟩
 have := flat_at (fun e he => (hes e he).key) hi hv
 rw [Nat.zero_add, cell_of_cells h]
 simpa using this
def k129 : List UInt8 := 129 :: List.replicate 31 0
def E8a : Ent := ⟨z26, [1]⟩
def E8b : Ent := ⟨k128, [2]⟩
structure Two (T : Tv) (v va vb : Value) : Prop where
 val : T.val = v
 f1 : T.fin z26 0 = .leaf va E8a
 d1 : T.dep z26 0 = 1
 s1 : (T.sibs z26 0).length = 1
 w1 : (T.way z26 0).length = 2
 g1 : getT (T.fin k128 0).tr k128 = some E8b
 g2 : getT (T.fin k129 0).tr k129 = none
 c0 : T.child 0 = .leaf va E8a
 u : T.under k128 256 = .leaf vb E8b
end
section
open Go.RowKit
end
end Go.Proofs.YtmfbhohjpkmllaaGreatDoor
