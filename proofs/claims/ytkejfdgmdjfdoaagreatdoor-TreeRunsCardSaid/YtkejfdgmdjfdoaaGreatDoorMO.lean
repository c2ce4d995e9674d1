import Derived.Test.YtkejfdgmdjfdoaaGreatDoorM9
import Derived.Test.YtkejfdgmdjfdoaaGreatDoorM7
import Derived.Test.YtkejfdgmdjfdoaaGreatDoorM3
import Derived.Test.YtkejfdgmdjfdoaaGreatDoorLd
namespace Go.Proofs.YtkejfdgmdjfdoaaGreatDoor
set_option linter.unusedSimpArgs false
set_option linter.unusedVariables false
set_option maxHeartbeats 16000000
set_option maxRecDepth 100000
section
open Go.RowKit
end
section
open Go.RowKit
def getE (es : List En) (k : List UInt8) : Option En := es.find? fun e => decide (e.k = k)
def getVal : Option En → Value
 | none => .slice none 0 0
 | some e => .slice e.A e.v.length e.c
theorem get7_c (A : Option Addr) (c : Nat) (es : List En) (k : List UInt8) (w : World) (hA : EA w A es) (hn : es.length ≤ 100000) (hk : k.length = 32) :
  Calls Tryz.prog 35 #[.slice A es.length c, .agg (bA k)] w fun e w' => e = .returned (.tuple #[getVal (getE es k), .bool (getE es k).isSome]) ∧ Below w.heap.size w w' := by
 obtain ⟨X, hX⟩ : ∃ X, X = w.alloc (.cells (bA k) 40) := ⟨_, rfl⟩
 have hb0 : Below w.heap.size w X := by rw [hX]; exact (Below.refl _ _).alloc (Nat.le_refl _) _
 have hr0 : RowB X w.heap.size 40 k := by rw [hX]; exact RowB.alloc w k _
 have HX := Lib.hid hX
 have HB0 := Lib.hid hb0
 have HR0 := Lib.hid hr0
 have HA := Lib.hid (hA.below hb0)
 clear hA hX hb0 hr0
 go_enter Tryz.func35, Tryz.ntmps35
 go_wp2_with fail
 rw [← HX.out]
 clear HX
 go_loopg [6] es.length (fun gg i wr => ∃ m : Nat, i = .int .i64 (m : Int) ∧ m ≤ es.length ∧ es.length - m = gg ∧ Hid (∀ e ∈ es.take m, e.k ≠ k) ∧ Below X.heap.size X wr)
 case atStart => exact ⟨0, rfl, by omega, by omega, fun e he => by simp at he, Below.refl _ _⟩
 case round =>
  obtain ⟨m, rfl, hm, rfl, HN, hB⟩ := hrel
  have HB := Lib.hid hB
  clear hB
  by_cases hlt : m < es.length
  ·have hd : decide (m < es.length) = true := decide_eq_true hlt
   obtain ⟨e, he⟩ : ∃ e, es[m]? = some e := ⟨_, List.getElem?_eq_getElem hlt⟩
   obtain ⟨hok, g, o, rfl, hr⟩ := HA.out m e he
   have HR := Lib.hid (range_below hr HB.out)
   have HKL := Lib.hid hok.key
   have HE := Lib.hid he
   have p0 : (0 : Int) ≤ (m : Int) := by omega
   have p1 : (m : Int) < (es.length : Int) := by omega
   have l1 : ∀ q : Later wr, ldA 40 q.w (.pointer (some ⟨g, o + m * 33, none⟩)) = .ok (.value (.agg (bA e.k))) q.w := fun q => range_key (range_below HR.out q.h) HKL.out
   have l2 : ∀ q : Later wr, ldA 40 q.w (.pointer (some ⟨w.heap.size, 0, none⟩)) = .ok (.value (.agg (bA k))) q.w := fun q => ((HR0.out.below HB.out).below q.h).ldKey hk
   clear he hok hr
   by_cases hek : e.k = k
   ·have qk : ∀ o p w, eqA .eql 40 o p w (.agg (bA e.k)) (.agg (bA k)) = .ok (.value (.bool true)) w := fun o p w => by rw [eqKey e.k k HKL.out hk, decide_eq_true hek]
    have HG : Hid (getE es k = some e) := by
     show es.find? _ = _
     have h1 : es = es.take m ++ e :: es.drop (m + 1) := by
      have h2 : e = es[m] := Option.some.inj (HE.out.symm.trans (List.getElem?_eq_getElem hlt))
      rw [h2, ← List.drop_eq_getElem_cons hlt, List.take_append_drop]
     rw [h1, List.find?_append, List.find?_eq_none.2 (fun x hx => by simpa using HN.out x hx)]
     simp [hek]
    clear hek
    go_wp2_with fail
    refine wp_region_later (by kernel_rfl) (by kernel_rfl) ?_
    repeat (go_big_quiet_step (fail))
    refine wpQuiet_nil ?_
    rintro _ ⟨x, rfl⟩
    have HB2 := Lib.hid (HB.out.trans (x.h.mono HB.out.size))
    have lv := range_val (range_below HR.out x.h) HKL.out
    clear l1 l2 qk
    go_wp2_with fail
    go_ret2
    exact ⟨by rw [HG.out]; rfl, HB0.out.trans (HB2.out.mono HB0.out.size)⟩
   ·have qk : ∀ o p w, eqA .eql 40 o p w (.agg (bA e.k)) (.agg (bA k)) = .ok (.value (.bool false)) w := fun o p w => by rw [eqKey e.k k HKL.out hk, decide_eq_false hek]
    have HEK := Lib.hid hek
    clear hek
    go_wp2_with fail
    refine wp_region_later (by kernel_rfl) (by kernel_rfl) ?_
    repeat (go_big_quiet_step (fail))
    refine wpQuiet_nil ?_
    rintro _ ⟨x, rfl⟩
    have HB2 := Lib.hid (HB.out.trans (x.h.mono HB.out.size))
    clear l1 l2 qk
    go_wp2_with fail
    go_roundg (es.length - (m + 1))
    case measure => omega
    case rel =>
     refine ⟨m + 1, by go_num, by omega, rfl, fun x hx => ?_, HB2.out⟩
     rw [take_some HE.out] at hx
     rcases List.mem_append.1 hx with hx | hx
     ·exact HN.out x hx
     ·rw [List.mem_singleton.1 hx]; exact HEK.out
  ·obtain rfl : m = es.length := by omega
   have hd : decide (es.length < es.length) = false := decide_eq_false (by omega)
   have HG : Hid (getE es k = none) := by
    show es.find? _ = _
    refine List.find?_eq_none.2 fun x hx => ?_
    have := HN.out x (by rw [List.take_length]; exact hx)
    simpa using this
   go_wp2_with fail
   go_ret2
   exact ⟨by rw [HG.out]; rfl, HB0.out.trans (HB.out.mono HB0.out.size)⟩
end
section
open Go.RowKit
instance : DecidableEq Ent := fun a b => if h : a.k = b.k ∧ a.v = b.v then isTrue (by cases a; cases b; obtain ⟨rfl, rfl⟩ := h; rfl) else isFalse fun e => h ⟨congrArg Ent.k e, congrArg Ent.v e⟩
theorem map_take_succ {es : List En} {m : Nat} {e : En} (h : es[m]? = some e) : (es.take (m + 1)).map En.ent = (es.take m).map En.ent ++ [e.ent] := by
 rw [take_some h, List.map_append]
 rfl
theorem same7_c (A B : Option Addr) (c d : Nat) (xs ys : List En) (w : World) (hA : EA w A xs) (hB : EA w B ys) (hn : xs.length ≤ 100000) (_hm : ys.length ≤ 100000) (ha : ∀ e ∈ xs, e.v.length ≤ 1000000) (hb : ∀ e ∈ ys, e.v.length ≤ 1000000) :
  Calls Tryz.prog 41 #[.slice A xs.length c, .slice B ys.length d] w fun e w' => e = .returned (.bool (decide (xs.map En.ent = ys.map En.ent))) ∧ Below w.heap.size w w' := by
 have HA := Lib.hid hA
 have HB := Lib.hid hB
 have HVA := Lib.hid ha
 have HVB := Lib.hid hb
 clear hA hB ha hb
 by_cases hl : xs.length = ys.length
 ·have dn : ((xs.length : Int) != (ys.length : Int)) = false := by rw [bne_eq_false_iff_eq]; omega
  go_enter Tryz.func41, Tryz.ntmps41
  go_wp2_with fail
  go_loopg [5] xs.length (fun gg i wr => ∃ m : Nat, i = .int .i64 (m : Int) ∧ m ≤ xs.length ∧ xs.length - m = gg ∧ Hid ((xs.take m).map En.ent = (ys.take m).map En.ent) ∧ Below w.heap.size w wr)
  case atStart => exact ⟨0, rfl, by omega, by omega, rfl, Below.refl _ _⟩
  case round =>
   obtain ⟨m, rfl, hml, rfl, HE, hBw⟩ := hrel
   have HBw := Lib.hid hBw
   clear hBw
   by_cases hlt : m < xs.length
   ·have hd : decide (m < xs.length) = true := decide_eq_true hlt
    obtain ⟨e, he⟩ : ∃ e, xs[m]? = some e := ⟨_, List.getElem?_eq_getElem hlt⟩
    obtain ⟨f, hf⟩ : ∃ f, ys[m]? = some f := ⟨_, List.getElem?_eq_getElem (by omega)⟩
    obtain ⟨hok, g, o, rfl, hr⟩ := HA.out m e he
    obtain ⟨hok2, g2, o2, rfl, hr2⟩ := HB.out m f hf
    have HEe := Lib.hid he
    have HFe := Lib.hid hf
    have HR1 := Lib.hid (range_below hr HBw.out)
    have HR2 := Lib.hid (range_below hr2 HBw.out)
    have HK1 := Lib.hid hok.key
    have HK2 := Lib.hid hok2.key
    have HV1 := Lib.hid (hok.val.below HBw.out)
    have HV2 := Lib.hid (hok2.val.below HBw.out)
    have p0 : (0 : Int) ≤ (m : Int) := by omega
    have p1 : (m : Int) < (xs.length : Int) := by omega
    have p2 : (m : Int) < (ys.length : Int) := by omega
    have l1 : ∀ q : Later wr, ldA 40 q.w (.pointer (some ⟨g, o + m * 33, none⟩)) = .ok (.value (.agg (bA e.k))) q.w := fun q => range_key (range_below HR1.out q.h) HK1.out
    have l2 : ∀ q : Later wr, ldA 40 q.w (.pointer (some ⟨g2, o2 + m * 33, none⟩)) = .ok (.value (.agg (bA f.k))) q.w := fun q => range_key (range_below HR2.out q.h) HK2.out
    have l3 : ∀ q : Later wr, q.w.cell? ⟨g, o + m * 33 + 32, none⟩ = some (.slice e.A e.v.length e.c) := fun q => range_val (range_below HR1.out q.h) HK1.out
    have l4 : ∀ q : Later wr, q.w.cell? ⟨g2, o2 + m * 33 + 32, none⟩ = some (.slice f.A f.v.length f.c) := fun q => range_val (range_below HR2.out q.h) HK2.out
    have HC : Hid (∀ q : Later wr, Calls Tryz.prog 36 #[.slice e.A e.v.length e.c, .slice f.A f.v.length f.c] q.w fun x w' => x = .returned (.bool (decide (e.v = f.v))) ∧ Below q.w.heap.size q.w w') := fun q =>
     same_c e.A f.A e.c f.c e.v f.v q.w (HV1.out.below q.h) (HV2.out.below q.h) (by have := HVA.out e (List.mem_of_getElem? HEe.out); omega) (by have := HVB.out f (List.mem_of_getElem? HFe.out); omega)
    clear he hf hok hok2 hr hr2
    by_cases hk : e.k = f.k
    ·have qk : ∀ o p w, eqA .neq 40 o p w (.agg (bA e.k)) (.agg (bA f.k)) = .ok (.value (.bool false)) w := fun o p w => by rw [neKey e.k f.k HK1.out HK2.out, decide_eq_true hk]; rfl
     by_cases hv : e.v = f.v
     ·rw [decide_eq_true hv] at HC
      have HN : Hid ((xs.take (m + 1)).map En.ent = (ys.take (m + 1)).map En.ent) := by
       show _ = _
       rw [map_take_succ HEe.out, map_take_succ HFe.out, HE.out]
       unfold En.ent
       rw [hk, hv]
      clear hk hv
      go_wp2_with fail
      refine wp_region_later (by kernel_rfl) (by kernel_rfl) ?_
      repeat (go_big_quiet_step ((go_at_call 36; exact Later.call (HC.out _))))
      refine wpQuiet_nil ?_
      rintro _ ⟨x, rfl⟩
      have HB2 := Lib.hid (HBw.out.trans (x.h.mono HBw.out.size))
      clear l1 l2 l3 l4 qk
      go_wp2_with fail
      go_roundg (xs.length - (m + 1))
      case measure => omega
      case rel => exact ⟨m + 1, by go_num, by omega, rfl, HN.out, HB2.out⟩
     ·rw [decide_eq_false hv] at HC
      have HN : Hid (decide (xs.map En.ent = ys.map En.ent) = false) := by
       refine decide_eq_false fun h => hv ?_
       have h1 : (xs.map En.ent)[m]? = (ys.map En.ent)[m]? := by rw [h]
       rw [List.getElem?_map, List.getElem?_map, HEe.out, HFe.out] at h1
       exact congrArg Ent.v (Option.some.inj h1)
      clear hk hv
      go_wp2_with fail
      refine wp_region_later (by kernel_rfl) (by kernel_rfl) ?_
      repeat (go_big_quiet_step ((go_at_call 36; exact Later.call (HC.out _))))
      refine wpQuiet_nil ?_
      rintro _ ⟨x, rfl⟩
      have HB2 := Lib.hid (HBw.out.trans (x.h.mono HBw.out.size))
      clear l1 l2 l3 l4 qk
      go_wp2_with fail
      go_ret
      exact ⟨ret_bool HN.out.symm, HB2.out⟩
    ·have qk : ∀ o p w, eqA .neq 40 o p w (.agg (bA e.k)) (.agg (bA f.k)) = .ok (.value (.bool true)) w := fun o p w => by rw [neKey e.k f.k HK1.out HK2.out, decide_eq_false hk]; rfl
     have HN : Hid (decide (xs.map En.ent = ys.map En.ent) = false) := by
      refine decide_eq_false fun h => hk ?_
      have h1 : (xs.map En.ent)[m]? = (ys.map En.ent)[m]? := by rw [h]
      rw [List.getElem?_map, List.getElem?_map, HEe.out, HFe.out] at h1
      exact congrArg Ent.k (Option.some.inj h1)
     clear hk
     go_wp2_with fail
     refine wp_region_later (by kernel_rfl) (by kernel_rfl) ?_
     repeat (go_big_quiet_step (fail))
     refine wpQuiet_nil ?_
     rintro _ ⟨x, rfl⟩
     have HB2 := Lib.hid (HBw.out.trans (x.h.mono HBw.out.size))
     clear l1 l2 l3 l4 qk
     go_wp2_with fail
     go_ret
     exact ⟨ret_bool HN.out.symm, HB2.out⟩
   ·have hd : decide (m < xs.length) = false := decide_eq_false (by omega)
    have HN : Hid (decide (xs.map En.ent = ys.map En.ent) = true) := by
     refine decide_eq_true ?_
     have := HE.out
     rwa [List.take_of_length_le (by omega), List.take_of_length_le (by omega)] at this
    go_wp2_with fail
    go_ret
    exact ⟨ret_bool HN.out.symm, HBw.out⟩
 ·have dn : ((xs.length : Int) != (ys.length : Int)) = true := by rw [bne_iff_ne]; omega
  have HN : Hid (decide (xs.map En.ent = ys.map En.ent) = false) := by
   refine decide_eq_false fun h => hl ?_
   have := congrArg List.length h
   simpa using this
  clear hl
  go_enter Tryz.func41, Tryz.ntmps41
  go_wp2_with fail
  go_ret
  exact ⟨ret_bool HN.out.symm, Below.refl _ _⟩
end
section
open Go.RowKit
structure IsMap (l : List Ent) (T : Tv) : Prop where
 sep : Sep 0 l
 tr : T.tr = growT 257 l 0
theorem IsMap.at {l : List Ent} {T : Tv} (h : IsMap l T) (k : List UInt8) : At l k 0 T := At.top k h.tr
def PA (w : World) (A : Option Addr) (ts : List Tv) : Prop := ∀ i T, ts[i]? = some T → ∃ g o, A = some ⟨g, o, none⟩ ∧ w.cell? ⟨g, o + i, none⟩ = some T.val
theorem PA.below {w w' : World} {A : Option Addr} {ts : List Tv} (h : PA w A ts) (hb : Below w.heap.size w w') : PA w' A ts := fun i T hi => by
 obtain ⟨g, o, rfl, h1⟩ := h i T hi
 exact ⟨g, o, rfl, by rw [hb.cell (lt_of_cell h1)]; exact h1⟩
theorem Hs.pa {w w' : World} {b : Nat} {n : Int} {c : Nat} {A : Option Addr} {ts : List Tv} (h : Hs w b n c) (hA : PA w A ts) (hv : ∀ T ∈ ts, ∃ a, T.val = .pointer a) (k : Keep (fun i => i = b) w w') : PA w' A ts := fun i T hi => by
 obtain ⟨g, o, rfl, h1⟩ := hA i T hi
 refine ⟨g, o, rfl, k.cellAt h1 fun e => ?_⟩
 have e3 : g = b := e
 subst e3
 obtain ⟨a, ha⟩ := hv T (List.mem_of_getElem? hi)
 rw [cell_of_cells h, ha] at h1
 obtain ⟨q, hq⟩ : ∃ q, q = o + i := ⟨_, rfl⟩
 rw [← hq] at h1
 match q, h1 with
 | 0, h1 => cases h1
 | 1, h1 => cases h1
 | q + 2, h1 => simp at h1
def getT (t : Tr) (k : List UInt8) : Option Ent :=
 match t with
 | .leaf e => if e.k = k then some e else none
 | _ => none
def valO : Option Ent → List UInt8
 | none => []
 | some e => e.v
structure FnV (M : World → Int → Tv → Prop) : Prop where
 locate : ∀ (w : World) (n : Int) (l : List Ent) (T : Tv) (k : List UInt8), M w n T → IsMap l T → k.length = 32 →
  Calls Tryz.prog 67 #[T.val, .agg (bA k)] w fun e w' => e = .returned (.tuple #[(T.fin k 0).val, .int .i64 ((T.dep k 0 : Nat) : Int)]) ∧ Below w.heap.size w w'
 get : ∀ (w : World) (n : Int) (l : List Ent) (T : Tv) (k : List UInt8), M w n T → IsMap l T → k.length = 32 →
  Calls Tryz.prog 44 #[T.val, .agg (bA k)] w fun e w' => ∃ A c, e = .returned (.tuple #[.slice A (valO (getT (T.fin k 0).tr k)).length c, .bool (getT (T.fin k 0).tr k).isSome]) ∧ NewB w' w.heap.size A c (valO (getT (T.fin k 0).tr k)) ∧ Below w.heap.size w w'
 child : ∀ (w : World) (n : Int) (T : Tv) (b : Int), M w n T → Calls Tryz.prog 134 #[T.val, .int .i64 b] w fun e w' => e = .returned (T.child b).val ∧ Below w.heap.size w w'
theorem ms_way {M : World → Int → Tv → Prop} (nd : NdV M) {w : World} {n : Int} (k : List UInt8) : ∀ (T : Tv) (d : Nat), M w n T → ∀ S ∈ T.way k d, M w n S
 | .nil, _, h, S, hS => by
  rw [show S = .nil by simpa [Tv.way] using hS]; exact h
 | .leaf v e, _, h, S, hS => by
  rw [show S = .leaf v e by simpa [Tv.way] using hS]; exact h
 | .inner v a b, d, h, S, hS => by
  obtain ⟨ha, hb⟩ := nd.kids h
  unfold Tv.way at hS
  rcases List.mem_cons.1 hS with rfl | hS
  ·exact h
  ·by_cases hb0 : bitK k d = 0
   ·rw [if_pos hb0] at hS; exact ms_way nd k a (d + 1) ha S hS
   ·rw [if_neg hb0] at hS; exact ms_way nd k b (d + 1) hb S hS
theorem ms_sibs {M : World → Int → Tv → Prop} (nd : NdV M) {w : World} {n : Int} (k : List UInt8) : ∀ (T : Tv) (d : Nat), M w n T → ∀ S ∈ T.sibs k d, M w n S
 | .nil, _, _, S, hS => by simp [Tv.sibs] at hS
 | .leaf _ _, _, _, S, hS => by simp [Tv.sibs] at hS
 | .inner v a b, d, h, S, hS => by
  obtain ⟨ha, hb⟩ := nd.kids h
  unfold Tv.sibs at hS
  by_cases hb0 : bitK k d = 0
  ·rw [if_pos hb0] at hS
   rcases List.mem_cons.1 hS with rfl | hS
   ·exact hb
   ·exact ms_sibs nd k a (d + 1) ha S hS
  ·rw [if_neg hb0] at hS
   rcases List.mem_cons.1 hS with rfl | hS
   ·exact ha
   ·exact ms_sibs nd k b (d + 1) hb S hS
theorem ms_fin {M : World → Int → Tv → Prop} (nd : NdV M) {w : World} {n : Int} (k : List UInt8) {T : Tv} {d : Nat} (h : M w n T) : M w n (T.fin k d) :=
 ms_way nd k T d h _ (List.mem_of_getElem? (way_last k T d))
theorem val_ptr {M : World → Int → Tv → Prop} (nd : NdV M) {w : World} {n : Int} {T : Tv} (h : M w n T) : ∃ a, T.val = .pointer a := by
 rcases nd.addr h with rfl | ⟨a, ha⟩
 ·exact ⟨none, rfl⟩
 ·exact ⟨_, ha⟩
structure Fs (M : World → Int → Tv → Prop) (W : World) (n : Int) (A : Option Addr) (m : List En) (T : Tv) (w : World) : Prop where
 bel : Below W.heap.size W w
 vars : Vars w
 ea : EA w A m
 ms : M w n T
theorem Fs.below {M : World → Int → Tv → Prop} (nd : NdV M) {W w w' : World} {n : Int} {A : Option Addr} {m : List En} {T : Tv} (h : Fs M W n A m T w) (hb : Below w.heap.size w w') : Fs M W n A m T w' :=
 ⟨h.bel.trans (hb.mono h.bel.size), h.vars.below hb, h.ea.below hb, nd.below h.ms hb⟩
theorem Fs.hs {M : World → Int → Tv → Prop} (nd : NdV M) {W w w' : World} {n : Int} {A : Option Addr} {m : List En} {T : Tv} (h : Fs M W n A m T w) {b : Nat} {k : Int} {c : Nat} (hh : Hs w b k c) (hb : W.heap.size ≤ b) (hk : Keep (fun i => i = b) w w') : Fs M W n A m T w' :=
 ⟨keep_new h.bel hb hk, h.vars.hs hh hk, hh.ea h.ea hk, nd.hs h.ms hh hk⟩
end
section
open Go.RowKit
def k129 : List UInt8 := 129 :: List.replicate 31 0
def E8a : Ent := ⟨z26, [1]⟩
def E8b : Ent := ⟨k128, [2]⟩
structure Two (T : Tv) (v va vb : Value) : Prop where
 val : T.val = v
 f1 : T.fin z26 0 = .leaf va E8a
 d1 : T.dep z26 0 = 1
 s1 : (T.sibs z26 0).length = 1
 w1 : (T.way z26 0).length = 2
 g1 : getT (T.fin k128 0).tr k128 = some E8b
 g2 : getT (T.fin k129 0).tr k129 = none
 c0 : T.child 0 = .leaf va E8a
 u : T.under k128 256 = .leaf vb E8b
end
section
open Go.RowKit
theorem get_is {l : List Ent} {k : List UInt8} (hs : Sep 0 l) {T : Tv} (hT : At l k 0 T) : getT (T.fin k 0).tr k = l.find? fun e => decide (e.k = k) := by
 obtain ⟨i1, i2, _⟩ := At.fin hs T 0 hT
 have hf := i1.few hs i2
 have hin : ∀ x ∈ l, x.k = k → x ∈ dK l k (T.dep k 0) := fun x hx he => dK_mem.2 ⟨hx, fun j _ => by rw [he]⟩
 match hm : dK l k (T.dep k 0), hf with
 | [], _ =>
  rw [i1.nil hm]
  refine (List.find?_eq_none.2 fun x hx => ?_).symm
  intro h
  have := hin x hx (of_decide_eq_true h)
  rw [hm] at this
  simp at this
 | [e], _ =>
  rw [i1.one hm]
  show (if e.k = k then some e else none) = _
  by_cases he : e.k = k
  ·rw [if_pos he]
   have h1 : e ∈ dK l k (T.dep k 0) := by rw [hm]; simp
   have hel := (dK_mem.1 h1).1
   cases hq : l.find? fun e => decide (e.k = k) with
   | none =>
    have := List.find?_eq_none.1 hq e hel
    simp [he] at this
   | some x =>
    have hx1 := List.find?_some hq
    have hx2 := List.mem_of_find?_eq_some hq
    have := hin x hx2 (of_decide_eq_true hx1)
    rw [hm, List.mem_singleton] at this
    rw [this]
  ·rw [if_neg he]
   refine (List.find?_eq_none.2 fun x hx => ?_).symm
   intro h
   have h2 := of_decide_eq_true h
   have := hin x hx h2
   rw [hm, List.mem_singleton] at this
   rw [this] at h2
   exact he h2
end
end Go.Proofs.YtkejfdgmdjfdoaaGreatDoor
