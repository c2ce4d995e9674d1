import Derived.Test.YtjgdindjimbfeaaGreatDoorMM
import Derived.Test.YtjgdindjimbfeaaGreatDoorM6
import Derived.Test.YtjgdindjimbfeaaGreatDoorM3
import Derived.Test.YtjgdindjimbfeaaGreatDoorTG
namespace Go.Proofs.YtjgdindjimbfeaaGreatDoor
set_option linter.unusedSimpArgs false
set_option linter.unusedVariables false
set_option maxHeartbeats 8000000
set_option maxRecDepth 100000
section
open Go.RowKit
end
section
open Go.RowKit
def getE (es : List En) (k : List UInt8) : Option En := es.find? fun e => decide (e.k = k)
def getVal : Option En → Value
 | none => .slice none 0 0
 | some e => .slice e.A e.v.length e.c
theorem get7_c (A : Option Addr) (c : Nat) (es : List En) (k : List UInt8) (w : World) (hA : EA w A es) (hn : es.length ≤ 100000) (hk : k.length = 32) :
  Calls Tryz.prog 26 #[.slice A es.length c, .agg (bA k)] w fun e w' => e = .returned (.tuple #[getVal (getE es k), .bool (getE es k).isSome]) ∧ Below w.heap.size w w' := by
 obtain ⟨X, hX⟩ : ∃ X, X = w.alloc (.cells (bA k) 48) := ⟨_, rfl⟩
 have hb0 : Below w.heap.size w X := by rw [hX]; exact (Below.refl _ _).alloc (Nat.le_refl _) _
 have hr0 : RowB X w.heap.size 48 k := by rw [hX]; exact RowB.alloc w k _
 have HX := Lib.hid hX
 have HB0 := Lib.hid hb0
 have HR0 := Lib.hid hr0
 have HA := Lib.hid (hA.below hb0)
 clear hA hX hb0 hr0
 go_enter Tryz.func26, Tryz.ntmps26
 go_wp2_with fail
 rw [← HX.out]
 clear HX
 go_loopg [6] es.length (fun gg i wr => ∃ m : Nat, i = .int .i64 (m : Int) ∧ m ≤ es.length ∧ es.length - m = gg ∧ Hid (∀ e ∈ es.take m, e.k ≠ k) ∧ Below X.heap.size X wr)
 case atStart => exact ⟨0, rfl, by omega, by omega, fun e he => by simp at he, Below.refl _ _⟩
 case round =>
  obtain ⟨m, rfl, hm, rfl, HN, hB⟩ := hrel
  have HB := Lib.hid hB
  clear hB
  by_cases hlt : m < es.length
  ·have hd : decide (m < es.length) = true := decide_eq_true hlt
   obtain ⟨e, he⟩ : ∃ e, es[m]? = some e := ⟨_, List.getElem?_eq_getElem hlt⟩
   obtain ⟨hok, g, o, rfl, hr⟩ := HA.out m e he
   have HR := Lib.hid (range_below hr HB.out)
   have HKL := Lib.hid hok.key
   have HE := Lib.hid he
   have p0 : (0 : Int) ≤ (m : Int) := by omega
   have p1 : (m : Int) < (es.length : Int) := by omega
   have l1 : ∀ q : Later wr, ldA 48 q.w (.pointer (some ⟨g, o + m * 33, none⟩)) = .ok (.value (.agg (bA e.k))) q.w := fun q => range_key (range_below HR.out q.h) HKL.out
   have l2 : ∀ q : Later wr, ldA 48 q.w (.pointer (some ⟨w.heap.size, 0, none⟩)) = .ok (.value (.agg (bA k))) q.w := fun q => ((HR0.out.below HB.out).below q.h).ldKey hk
   clear he hok hr
   by_cases hek : e.k = k
   ·have qk : ∀ o p w, eqA .eql 48 o p w (.agg (bA e.k)) (.agg (bA k)) = .ok (.value (.bool true)) w := fun o p w => by rw [eqKey e.k k HKL.out hk, decide_eq_true hek]
    have HG : Hid (getE es k = some e) := by
     show es.find? _ = _
     have h1 : es = es.take m ++ e :: es.drop (m + 1) := by
      have h2 : e = es[m] := Option.some.inj (HE.out.symm.trans (List.getElem?_eq_getElem hlt))
      rw [h2, ← List.drop_eq_getElem_cons hlt, List.take_append_drop]
     rw [h1, List.find?_append, List.find?_eq_none.2 (fun x hx => by simpa using HN.out x hx)]
     simp [hek]
    clear hek
    go_wp2_with fail
    refine wp_region_later (by kernel_rfl) (by kernel_rfl) ?_
    repeat (go_big_quiet_step (fail))
    refine wpQuiet_nil ?_
    rintro _ ⟨x, rfl⟩
    have HB2 := Lib.hid (HB.out.trans (x.h.mono HB.out.size))
    have lv := range_val (range_below HR.out x.h) HKL.out
    clear l1 l2 qk
    go_wp2_with fail
    go_ret2
    exact ⟨by rw [HG.out]; rfl, HB0.out.trans (HB2.out.mono HB0.out.size)⟩
   ·have qk : ∀ o p w, eqA .eql 48 o p w (.agg (bA e.k)) (.agg (bA k)) = .ok (.value (.bool false)) w := fun o p w => by rw [eqKey e.k k HKL.out hk, decide_eq_false hek]
    have HEK := Lib.hid hek
    clear hek
    go_wp2_with fail
    refine wp_region_later (by kernel_rfl) (by kernel_rfl) ?_
    repeat (go_big_quiet_step (fail))
    refine wpQuiet_nil ?_
    rintro _ ⟨x, rfl⟩
    have HB2 := Lib.hid (HB.out.trans (x.h.mono HB.out.size))
    clear l1 l2 qk
    go_wp2_with fail
    go_roundg (es.length - (m + 1))
    case measure => omega
    case rel =>
     refine ⟨m + 1, by go_num, by omega, rfl, fun x hx => ?_, HB2.out⟩
     rw [take_some HE.out] at hx
     rcases List.mem_append.1 hx with hx | hx
     ·exact HN.out x hx
     ·rw [List.mem_singleton.1 hx]; exact HEK.out
  ·obtain rfl : m = es.length := by omega
   have hd : decide (es.length < es.length) = false := decide_eq_false (by omega)
   have HG : Hid (getE es k = none) := by
    show es.find? _ = _
    refine List.find?_eq_none.2 fun x hx => ?_
    have := HN.out x (by rw [List.take_length]; exact hx)
    simpa using this
   go_wp2_with fail
   go_ret2
   exact ⟨by rw [HG.out]; rfl, HB0.out.trans (HB.out.mono HB0.out.size)⟩
end
section
open Go.RowKit
instance : DecidableEq Ent := fun a b => if h : a.k = b.k ∧ a.v = b.v then isTrue (by cases a; cases b; obtain ⟨rfl, rfl⟩ := h; rfl) else isFalse fun e => h ⟨congrArg Ent.k e, congrArg Ent.v e⟩
end
section
open Go.RowKit
structure IsMap (l : List Ent) (T : Tv) : Prop where
 sep : Sep 0 l
 tr : T.tr = growT 257 l 0
theorem IsMap.at {l : List Ent} {T : Tv} (h : IsMap l T) (k : List UInt8) : At l k 0 T := At.top k h.tr
def PA (w : World) (A : Option Addr) (ts : List Tv) : Prop := ∀ i T, ts[i]? = some T → ∃ g o, A = some ⟨g, o, none⟩ ∧ w.cell? ⟨g, o + i, none⟩ = some T.val
def getT (t : Tr) (k : List UInt8) : Option Ent :=
 match t with
 | .leaf e => if e.k = k then some e else none
 | _ => none
structure FnV (M : World → Int → Tv → Prop) : Prop where
 locate : ∀ (w : World) (n : Int) (l : List Ent) (T : Tv) (k : List UInt8), M w n T → IsMap l T → k.length = 32 →
  Calls Tryz.prog 54 #[T.val, .agg (bA k)] w fun e w' => e = .returned (.tuple #[(T.fin k 0).val, .int .i64 ((T.dep k 0 : Nat) : Int)]) ∧ Below w.heap.size w w'
 siblings : ∀ (w : World) (n : Int) (l : List Ent) (T : Tv) (k : List UInt8), M w n T → IsMap l T → k.length = 32 →
  Calls Tryz.prog 57 #[T.val, .agg (bA k)] w fun e w' => ∃ A c, e = .returned (.slice A (T.sibs k 0).length c) ∧ PA w' A (T.sibs k 0) ∧ Below w.heap.size w w'
 child : ∀ (w : World) (n : Int) (T : Tv) (b : Int), M w n T → Calls Tryz.prog 99 #[T.val, .int .i64 b] w fun e w' => e = .returned (T.child b).val ∧ Below w.heap.size w w'
theorem ms_way {M : World → Int → Tv → Prop} (nd : NdV M) {w : World} {n : Int} (k : List UInt8) : ∀ (T : Tv) (d : Nat), M w n T → ∀ S ∈ T.way k d, M w n S
 | .nil, _, h, S, hS => by
  rw [show S = .nil by simpa [Tv.way] using hS]; exact h
 | .leaf v e, _, h, S, hS => by
  rw [show S = .leaf v e by simpa [Tv.way] using hS]; exact h
 | .inner v a b, d, h, S, hS => by
  obtain ⟨ha, hb⟩ := nd.kids h
  unfold Tv.way at hS
  rcases List.mem_cons.1 hS with rfl | hS
  ·exact h
  ·by_cases hb0 : bitK k d = 0
   ·rw [if_pos hb0] at hS; exact ms_way nd k a (d + 1) ha S hS
   ·rw [if_neg hb0] at hS; exact ms_way nd k b (d + 1) hb S hS
theorem ms_sibs {M : World → Int → Tv → Prop} (nd : NdV M) {w : World} {n : Int} (k : List UInt8) : ∀ (T : Tv) (d : Nat), M w n T → ∀ S ∈ T.sibs k d, M w n S
 | .nil, _, _, S, hS => by simp [Tv.sibs] at hS
 | .leaf _ _, _, _, S, hS => by simp [Tv.sibs] at hS
 | .inner v a b, d, h, S, hS => by
  obtain ⟨ha, hb⟩ := nd.kids h
  unfold Tv.sibs at hS
  by_cases hb0 : bitK k d = 0
  ·rw [if_pos hb0] at hS
   rcases List.mem_cons.1 hS with rfl | hS
   ·exact hb
   ·exact ms_sibs nd k a (d + 1) ha S hS
  ·rw [if_neg hb0] at hS
   rcases List.mem_cons.1 hS with rfl | hS
   ·exact ha
   ·exact ms_sibs nd k b (d + 1) hb S hS
theorem ms_fin {M : World → Int → Tv → Prop} (nd : NdV M) {w : World} {n : Int} (k : List UInt8) {T : Tv} {d : Nat} (h : M w n T) : M w n (T.fin k d) :=
 ms_way nd k T d h _ (List.mem_of_getElem? (way_last k T d))
theorem val_ptr {M : World → Int → Tv → Prop} (nd : NdV M) {w : World} {n : Int} {T : Tv} (h : M w n T) : ∃ a, T.val = .pointer a := by
 rcases nd.addr h with rfl | ⟨a, ha⟩
 ·exact ⟨none, rfl⟩
 ·exact ⟨_, ha⟩
structure Fs (M : World → Int → Tv → Prop) (W : World) (n : Int) (A : Option Addr) (m : List En) (T : Tv) (w : World) : Prop where
 bel : Below W.heap.size W w
 vars : Vars w
 ea : EA w A m
 ms : M w n T
theorem Fs.below {M : World → Int → Tv → Prop} (nd : NdV M) {W w w' : World} {n : Int} {A : Option Addr} {m : List En} {T : Tv} (h : Fs M W n A m T w) (hb : Below w.heap.size w w') : Fs M W n A m T w' :=
 ⟨h.bel.trans (hb.mono h.bel.size), h.vars.below hb, h.ea.below hb, nd.below h.ms hb⟩
theorem tree_in {M : World → Int → Tv → Prop} (nd : NdV M) (n : Int) (A : Option Addr) (c : Nat) (es : List En) (W : World) (hA : EA W A es) (hl : es.length ≤ 12) (hvl : ∀ e ∈ es, e.v.length ≤ 1000) (hf : fewK (es.map En.ent) = true) (hvx : Vars W) (h0 : 0 ≤ n) (h1 : n ≤ 256) :
  Calls Tryz.prog 24 #[.int .i64 n, .slice A es.length c] W fun e w' => ∃ A' c' T, e = .returned (.tuple #[.slice A' (ofE es).length c', T.val, .bool true]) ∧ (ofE es).length ≤ c' ∧ IsMap ((ofE es).map En.ent) T ∧ Fs M W n A' (ofE es) T w' := by
 have HR : Hid (∀ w, Calls Tryz.prog 9 #[.int .i64 n] w fun e w' => e = .returned (.bool true) ∧ w = w') := fun w => by
  have := right5_c n w
  rwa [decide_eq_true ⟨h0, h1⟩] at this
 have HFW : Hid (∀ w, EA w A es → Calls Tryz.prog 47 #[.slice A es.length c] w fun e w' => e = .returned (.bool true) ∧ w = w') := fun w h => by
  have := few7_c A c es w h
  rwa [hf] at this
 have HA := Lib.hid hA
 have HV := Lib.hid hvl
 have HVX := Lib.hid hvx
 have HH := Lib.hid (hash_in n W h0 h1)
 clear hA hvl hvx hf
 go_enter Tryz.func24, Tryz.ntmps24
 go_wp2_with fail
 refine (HR.out W).mono ?_
 rintro _ _ ⟨rfl, rfl⟩
 go_wp2_with fail
 refine (HFW.out W HA.out).mono ?_
 rintro _ _ ⟨rfl, rfl⟩
 go_wp2_with fail
 refine HH.out.mono ?_
 rintro _ w1 ⟨b, rfl, hb, hH, hB⟩
 have HB := Lib.hid hB
 have HH1 := Lib.hid hH
 have HA1 := Lib.hid (HA.out.below hB)
 have HVX1 := Lib.hid (HVX.out.below hB)
 have HBB := Lib.hid hb
 clear hB hH hb HH
 go_wp2_with fail
 refine (of7_c A c es w1 HA1.out (by omega)).mono ?_
 rintro _ w2 ⟨v2, rfl, hO2, hB2⟩
 obtain ⟨A2, c2, rfl, hc2, hE2⟩ := hO2.ea (fun e he => (HA1.out.mem e (ofE_mem he)).below hB2)
 have hln := ofE_len es
 have HB2 := Lib.hid (HB.out.trans (hB2.mono HB.out.size))
 have HH2 := Lib.hid (HH1.out.keep (Keep.of_below (L := fun _ => False) hB2) fun h => h)
 have HVX2 := Lib.hid (HVX1.out.below hB2)
 have HE2 := Lib.hid hE2
 have HC2 := Lib.hid hc2
 obtain ⟨O, hO⟩ : ∃ O, O = ofE es := ⟨_, rfl⟩
 have HSEP : Hid (Sep 0 (O.map En.ent)) := by
  show Sep _ _
  rw [hO, ofE_ent]
  refine ofK_sep _ fun e he => ?_
  obtain ⟨x, hx, rfl⟩ := List.mem_map.1 he
  exact (HA1.out.mem x hx).key
 have HVO : Hid (∀ e ∈ O, e.v.length ≤ 1000) := fun e he => HV.out e (ofE_mem (by rw [← hO]; exact he))
 rw [← hO] at HE2 hln HC2 ⊢
 have HLO : Hid (O.length ≤ 12) := Nat.le_trans hln hl
 have HOO := Lib.hid hO
 clear hO2 hc2 hE2 hB2 HH1 HVX1 HA1 HB hO hln
 go_wp2_with fail
 have hdeep : Deep 257 0 O.length := .inr ⟨by omega, by omega, by omega⟩
 refine (grow_c nd.c n b 257 A2 c2 O 0 0 w2 HE2.out (by have := HLO.out; omega) HVO.out hdeep HH2.out HVX2.out (by have := HLO.out; omega)).mono ?_
 rintro _ w4 ⟨_, m4, rfl, ⟨T, rfl, hT, hM⟩, hm4, hH4, hK4⟩
 have HP : Hid (IsMap (O.map En.ent) T ∧ Fs M W n A2 O T w4) := ⟨⟨HSEP.out, hT⟩, ⟨keep_new HB2.out HBB.out hK4, HVX2.out.hs HH2.out hK4, HH2.out.ea HE2.out hK4, hM⟩⟩
 clear hT hM hm4 hH4 hK4 hdeep
 go_wp2_with fail
 go_ret3
 rw [← HOO.out]
 exact ⟨A2, c2, T, rfl, HC2.out, HP.out⟩
theorem tree_out (n : Int) (A : Option Addr) (c : Nat) (es : List En) (W : World) (hA : EA W A es) (h : (n < 0 ∨ 256 < n) ∨ fewK (es.map En.ent) = false) :
  Calls Tryz.prog 24 #[.int .i64 n, .slice A es.length c] W fun e w' => e = .returned (.tuple #[.slice none 0 0, .pointer none, .bool false]) ∧ Below W.heap.size W w' := by
 have HA := Lib.hid hA
 clear hA
 by_cases hn : n < 0 ∨ 256 < n
 ·have HR : Hid (∀ w, Calls Tryz.prog 9 #[.int .i64 n] w fun e w' => e = .returned (.bool false) ∧ w = w') := fun w => by
   have := right5_c n w
   rwa [decide_eq_false (by omega)] at this
  clear hn h
  go_enter Tryz.func24, Tryz.ntmps24
  go_wp2_with fail
  refine (HR.out W).mono ?_
  rintro _ _ ⟨rfl, rfl⟩
  go_wp2_with fail
  go_ret3
  exact ⟨rfl, Below.refl _ _⟩
 ·have hf := h.elim (fun h => absurd h hn) id
  have HR : Hid (∀ w, Calls Tryz.prog 9 #[.int .i64 n] w fun e w' => e = .returned (.bool true) ∧ w = w') := fun w => by
   have := right5_c n w
   rwa [decide_eq_true (by omega)] at this
  have HFW : Hid (∀ w, EA w A es → Calls Tryz.prog 47 #[.slice A es.length c] w fun e w' => e = .returned (.bool false) ∧ w = w') := fun w h => by
   have := few7_c A c es w h
   rwa [hf] at this
  clear hn h hf
  go_enter Tryz.func24, Tryz.ntmps24
  go_wp2_with fail
  refine (HR.out W).mono ?_
  rintro _ _ ⟨rfl, rfl⟩
  go_wp2_with fail
  refine (HFW.out W HA.out).mono ?_
  rintro _ _ ⟨rfl, rfl⟩
  go_wp2_with fail
  go_ret3
  exact ⟨rfl, Below.refl _ _⟩
end
section
open Go.RowKit
def k129 : List UInt8 := 129 :: List.replicate 31 0
def E8a : Ent := ⟨z26, [1]⟩
def E8b : Ent := ⟨k128, [2]⟩
structure Two (T : Tv) (v va vb : Value) : Prop where
 val : T.val = v
 f1 : T.fin z26 0 = .leaf va E8a
 d1 : T.dep z26 0 = 1
 s1 : (T.sibs z26 0).length = 1
 w1 : (T.way z26 0).length = 2
 g1 : getT (T.fin k128 0).tr k128 = some E8b
 g2 : getT (T.fin k129 0).tr k129 = none
 c0 : T.child 0 = .leaf va E8a
 u : T.under k128 256 = .leaf vb E8b
end
section
open Go.RowKit
end
end Go.Proofs.YtjgdindjimbfeaaGreatDoor
