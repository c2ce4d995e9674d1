import Derived.Test.YtkejfdgmdjfdoaaGreatDoorT1
import Derived.Test.YtkejfdgmdjfdoaaGreatDoorMw
import Derived.Test.YtkejfdgmdjfdoaaGreatDoorG1
import Derived.Test.YtkejfdgmdjfdoaaGreatDoorMO
import Derived.Test.YtkejfdgmdjfdoaaGreatDoorMT
import Derived.Test.YtkejfdgmdjfdoaaGreatDoorMX
namespace Go.Proofs.YtkejfdgmdjfdoaaGreatDoor
set_option linter.unusedSimpArgs false
set_option linter.unusedVariables false
set_option maxHeartbeats 8000000
set_option maxRecDepth 100000
section
open Go.RowKit
theorem differs_c {M : World → Int → Tv → Prop} {Tr : World → Nat → Nat → Int → Tv → Prop} (nd : NdV M) (tv : TrV M Tr) (w : World) (p b : Nat) (n : Int) (c : Nat) (T : Tv) (A : Option Addr) (cA : Nat) (es : List En)
  (hT : Tr w p b n T) (hH : Hs w b n c) (hc : c ≤ 20000000) (hv : Vars w) (hM : M w n T) (hI : IsMap (es.map En.ent) T) (hS : Asc (es.map En.ent)) (hA : EA w A es) (hl : es.length ≤ 500) (hvl : ∀ e ∈ es, e.v.length ≤ 70000) :
  Calls Tryz.prog 14 #[ptr p, .int .i64 n, .slice A es.length cA] w fun e w' => e = .returned (.int .i64 0) ∧ Idle w b n (c + 10) w' := by
 have hne := tv.ne hT hH
 obtain ⟨g, hg⟩ : ∃ g, g = rootK 257 n (es.map En.ent) 0 := ⟨_, rfl⟩
 have hgl : g.length = 32 := by rw [hg]; exact rootK_len _ _ _ _
 have HRO := Lib.hid (tv.root w p b n c T hT hH hc hv hM)
 rw [hI.dig n, ← hg] at HRO
 have hq : ∀ x y w, eqA .eql 46 x y w (.agg (bA g)) (.agg (bA g)) = .ok (.value (.bool true)) w := fun x y w => by rw [eqDig g g hgl hgl, decide_eq_true rfl]
 have HG := Lib.hid hg
 have HRT : Hid (∀ y, EA y A es → Calls Tryz.prog 40 #[.int .i64 n, .slice A es.length cA, .int .i64 0] y fun e w' => e = .returned (.agg (bA g)) ∧ Below y.heap.size y w') := fun y hy => by
  have := root7_c n 257 A cA es 0 y hy (by omega) hvl (.inr ⟨by omega, by omega, by omega⟩)
  rwa [← hg] at this
 have HLN : Hid (∀ y, Tr y p b n T → M y n T → Calls Tryz.prog 17 #[ptr p] y fun e w' => e = .returned (.int .i64 (es.length : Int)) ∧ Below y.heap.size y w') := fun y h1 h2 => by
  have := tv.len y p b n (es.map En.ent) T h1 h2 hI (by rw [List.length_map]; omega)
  rwa [List.length_map] at this
 have HEN : Hid (∀ y, Tr y p b n T → M y n T → Calls Tryz.prog 23 #[ptr p] y fun e w' => ∃ (A : Option Addr) (c : Nat) (fs : List En), e = .returned (.slice A fs.length c) ∧ EA w' A fs ∧ fs.map En.ent = es.map En.ent ∧ Below y.heap.size y w') := fun y h1 h2 => (tv.entries y p b n (es.map En.ent) T h1 h2 hI hS (by rw [List.length_map]; omega)).mono fun _ _ ⟨A, c, fs, h3, h4, h5, h6, _⟩ => ⟨A, c, fs, h3, h4, h5, h6⟩
 have HT := Lib.hid hT
 have HH := Lib.hid hH
 have HM := Lib.hid hM
 have HA := Lib.hid hA
 have HVL := Lib.hid hvl
 have HL := Lib.hid hl
 have HNE := Lib.hid hne
 clear hT hH hc hv hM hI hS hA hvl hne hg hgl hl
 go_enter Tryz.func14, Tryz.ntmps14
 go_wp2_with fail
 refine HRO.out.mono ?_
 rintro _ w1 ⟨rfl, hD⟩
 have HD := Lib.hid hD
 have HA1 := Lib.hid (HH.out.ea HA.out hD.keep)
 clear hD HRO
 go_wp2_with fail
 refine (HRT.out w1 HA1.out).mono ?_
 rintro _ w2 ⟨rfl, hB2⟩
 have HB2 := Lib.hid hB2
 have HK2 : Hid (Keep (fun i => i = b) w w2) := HD.out.keep.trans (Keep.of_below hB2)
 have HT2 := Lib.hid (tv.keep HT.out HK2.out HNE.out)
 have HM2 := Lib.hid (nd.hs HM.out HH.out HK2.out)
 clear hB2
 go_wp2_with fail
 refine (HLN.out w2 HT2.out HM2.out).mono ?_
 rintro _ w3 ⟨rfl, hB3⟩
 have HB3 := Lib.hid (HB2.out.trans (hB3.mono HB2.out.size))
 have HK3 : Hid (Keep (fun i => i = b) w w3) := HK2.out.trans (Keep.of_below hB3)
 have HT3 := Lib.hid (tv.keep HT.out HK3.out HNE.out)
 have HM3 := Lib.hid (nd.hs HM.out HH.out HK3.out)
 clear hB3
 go_wp2_with fail
 refine (HEN.out w3 HT3.out HM3.out).mono ?_
 rintro _ w4 ⟨B, cB, fs, rfl, hE, hf, hB4⟩
 have HB4 := Lib.hid (HB3.out.trans (hB4.mono HB3.out.size))
 have HSM : Hid (Calls Tryz.prog 41 #[.slice B fs.length cB, .slice A es.length cA] w4 fun e w' => e = .returned (.bool true) ∧ Below w4.heap.size w4 w') := by
  have hlen : fs.length = es.length := by have := congrArg List.length hf; simpa using this
  have := same7_c B A cB cA fs es w4 hE (HA1.out.below HB4.out) (by have := HL.out; omega) (by have := HL.out; omega) (fun e he => by
   have h1 : e.ent ∈ es.map En.ent := by rw [← hf]; exact List.mem_map.2 ⟨e, he, rfl⟩
   obtain ⟨x, hx, hxe⟩ := List.mem_map.1 h1
   have h2 := HVL.out x hx
   have h3 : x.v = e.v := congrArg Ent.v hxe
   rw [← h3]; omega) (fun e he => by have := HVL.out e he; omega)
  rwa [decide_eq_true hf] at this
 clear hE hf hB4
 go_wp2_with fail
 refine HSM.out.mono ?_
 rintro _ w5 ⟨rfl, hB5⟩
 have HB5 := Lib.hid (HB4.out.trans (hB5.mono HB4.out.size))
 clear hB5
 go_wp2_with fail
 go_ret
 obtain ⟨c', hc', hh⟩ := HD.out.hs
 exact ⟨rfl, ⟨c', hc', hh.keep (Keep.of_below (L := fun _ => False) HB5.out) (fun h => h)⟩, HD.out.keep.trans (Keep.of_below HB5.out)⟩
end
section
open Go.RowKit
theorem range_on0 {w : World} {g o : Nat} {x : On} (h : w.rangeAt g o (onC x)) : w.cell? ⟨g, o, none⟩ = some (.int .i64 x.kind) := h 0 _ rfl
theorem range_on1 {w : World} {g o : Nat} {x : On} (h : w.rangeAt g o (onC x)) : w.cell? ⟨g, o + 1, none⟩ = some (.slice x.A x.k.length x.c) := h 1 _ rfl
theorem range_on2 {w : World} {g o : Nat} {x : On} (h : w.rangeAt g o (onC x)) : w.cell? ⟨g, o + 2, none⟩ = some (.slice x.B x.v.length x.e) := h 2 _ rfl
theorem range_on3 {w : World} {g o : Nat} {x : On} (h : w.rangeAt g o (onC x)) : w.cell? ⟨g, o + 3, none⟩ = some (.slice x.U x.us.length x.cu) := h 3 _ rfl
def fewI (os : List On) : Int := if fewO os then 1 else 0
theorem fewI_yes {os : List On} (h : fewO os = true) : fewI os = 1 := by unfold fewI; rw [if_pos h]
theorem fewI_no {os : List On} (h : fewO os = false) : fewI os = 0 := by unfold fewI; rw [if_neg (by rw [h]; decide)]
theorem fewO_no_len {os : List On} (h : 12 < os.length) : fewO os = false := by
 unfold fewO
 rw [decide_eq_false (by omega)]
 rfl
theorem fewO_no_at {os : List On} {i : Nat} {x : On} (hx : os[i]? = some x) (h : fewOn x = false) : fewO os = false := by
 unfold fewO
 rw [Bool.and_eq_false_iff]
 right
 rw [List.all_eq_false]
 exact ⟨x, List.mem_of_getElem? hx, by rw [h]; decide⟩
theorem fewO_all {os : List On} (h : os.length ≤ 12) (hv : ∀ j x, j < os.length → os[j]? = some x → fewOn x = true) : fewO os = true := by
 unfold fewO
 rw [decide_eq_true h, Bool.true_and, List.all_eq_true]
 intro x hx
 obtain ⟨j, hj, rfl⟩ := List.getElem_of_mem hx
 exact hv j _ hj (List.getElem?_eq_getElem hj)
theorem fewO_len {os : List On} (h : fewO os = true) : os.length ≤ 12 := by
 unfold fewO at h
 rw [Bool.and_eq_true] at h
 exact of_decide_eq_true h.1
theorem fewO_at {os : List On} (h : fewO os = true) {x : On} (hx : x ∈ os) : fewOn x = true := by
 unfold fewO at h
 rw [Bool.and_eq_true, List.all_eq_true] at h
 exact h.2 x hx
theorem fewU_all {us : List Up} (h : fewU us = true) : us.length ≤ 20 ∧ ∀ u ∈ us, u.k.length ≤ 100 ∧ u.v.length ≤ 70000 := by
 unfold fewU at h
 rw [Bool.and_eq_true, Bool.and_eq_true, List.all_eq_true] at h
 refine ⟨of_decide_eq_true h.1.1, fun u hu => ?_⟩
 have := h.1.2 u hu
 rw [Bool.and_eq_true] at this
 exact ⟨of_decide_eq_true this.1, of_decide_eq_true this.2⟩
theorem fewOn_all {x : On} (h : fewOn x = true) : x.k.length ≤ 100 ∧ x.v.length ≤ 70000 ∧ x.us.length ≤ 20 ∧ ∀ u ∈ x.us, u.k.length ≤ 100 ∧ u.v.length ≤ 70000 := by
 unfold fewOn at h
 rw [Bool.and_eq_true] at h
 have h1 := (fewU_all h.1).2 _ (List.mem_singleton.2 rfl)
 obtain ⟨h2, h3⟩ := fewU_all h.2
 rw [List.length_map] at h2
 exact ⟨h1.1, h1.2, h2, fun u hu => h3 u.up (List.mem_map.2 ⟨u, hu, rfl⟩)⟩
theorem ua_one {w : World} {g : Nat} {x : Un} {t : TypeId} (h : w.heap[g]? = some (.cells (unC x).toArray t (0, 0))) (hx : UnOk w x) : UA w (some ⟨g, 0, none⟩) [x] := fun i y hi => by
 match i, hi with
 | 0, hi =>
  obtain rfl : x = y := by simpa using hi
  refine ⟨hx, g, 0, rfl, fun j v hv => ?_⟩
  rw [show 0 + 0 * 3 + j = j by omega, cell_of_cells h, List.getElem?_toArray]
  exact hv
 | i + 1, hi => simp at hi
theorem fewO_c (A : Option Addr) (c : Nat) (os : List On) (w : World) (hA : OA w A os) :
  Calls Tryz.prog 12 #[.slice A os.length c] w fun e w' => e = .returned (.int .i64 (fewI os)) ∧ Below w.heap.size w w' := by
 have HA := Lib.hid hA
 clear hA
 rcases Nat.lt_or_ge 12 os.length with hl | hl
 ·have HF := Lib.hid (fewO_no_len hl)
  have d1 : decide (12 < os.length) = true := decide_eq_true hl
  have d2 : decide (12 < (os.length : Int)) = true := decide_eq_true (by omega)
  go_enter Tryz.func12, Tryz.ntmps12
  go_wp2_with fail
  go_ret
  exact ⟨ret_i64 (fewI_no HF.out).symm, Below.refl _ _⟩
 ·have d1 : decide (12 < os.length) = false := decide_eq_false (by omega)
  have d2 : decide (12 < (os.length : Int)) = false := decide_eq_false (by omega)
  go_enter Tryz.func12, Tryz.ntmps12
  go_wp2_with fail
  go_loopg [10] os.length (fun gg i wr => ∃ k : Nat, i = .int .i64 k ∧ k ≤ os.length ∧ os.length - k = gg ∧ Hid (∀ j x, j < k → os[j]? = some x → fewOn x = true) ∧ Below w.heap.size w wr)
  case atStart => exact ⟨0, rfl, by omega, by omega, fun j e hj => absurd hj (Nat.not_lt_zero j), Below.refl _ _⟩
  case round =>
   obtain ⟨k, rfl, hk, rfl, HV, hB⟩ := hrel
   have HB := Lib.hid hB
   clear hB
   by_cases hlt : k < os.length
   ·have hd : decide (k < os.length) = true := decide_eq_true hlt
    obtain ⟨x, hx⟩ : ∃ x, os[k]? = some x := ⟨_, List.getElem?_eq_getElem hlt⟩
    obtain ⟨hok, g, o, rfl, hr⟩ := HA.out k x hx
    have hr2 := range_below hr HB.out
    have hok2 := hok.below HB.out
    have c0 := range_on0 hr2
    have c1 := range_on1 hr2
    have c2 := range_on2 hr2
    have c3 := range_on3 hr2
    have HE := Lib.hid hx
    have p0 : (0 : Int) ≤ (k : Int) := by omega
    have p1 : (k : Int) < (os.length : Int) := by omega
    obtain ⟨Y, hY⟩ : ∃ Y, Y = wr.alloc (.cells #[.int .i64 x.kind, .slice x.A x.k.length x.c, .slice x.B x.v.length x.e, .slice x.U x.us.length x.cu] 34) := ⟨_, rfl⟩
    obtain ⟨Z, hZ⟩ : ∃ Z, Z = Y.alloc (.cells #[.slice x.A x.k.length x.c, .slice x.B x.v.length x.e, .bool false] 77) := ⟨_, rfl⟩
    have hY1 : Below wr.heap.size wr Y := by rw [hY]; exact (Below.refl _ _).alloc (Nat.le_refl _) _
    have hZ1 : Below Y.heap.size Y Z := by rw [hZ]; exact (Below.refl _ _).alloc (Nat.le_refl _) _
    have hsz : Y.heap.size = wr.heap.size + 1 := by rw [hY]; simp
    have HBZ := Lib.hid (HB.out.trans ((hY1.trans (hZ1.mono hY1.size)).mono HB.out.size))
    have hokZ := (hok2.below hY1).below hZ1
    obtain ⟨b1, hb1⟩ : ∃ b, b = fewU [⟨x.k, x.v, false⟩] := ⟨_, rfl⟩
    obtain ⟨b2, hb2⟩ : ∃ b, b = fewU (x.us.map Un.up) := ⟨_, rfl⟩
    have HF1 : Hid (Calls Tryz.prog 19 #[.slice (some ⟨wr.heap.size + 1, 0, none⟩) 1 1] Z fun e w' => e = .returned (.bool b1) ∧ Z = w') := by
     rw [hb1, ← hsz]
     exact few13_c (some ⟨Y.heap.size, 0, none⟩) 1 [⟨x.A, x.k, x.c, x.B, x.v, x.e, false⟩] Z (ua_one (by rw [hZ]; exact heap_alloc_new Y _) ⟨hokZ.key, hokZ.kc, hokZ.val, hokZ.vc⟩)
    have HF2 : Hid (Calls Tryz.prog 19 #[.slice x.U x.us.length x.cu] Z fun e w' => e = .returned (.bool b2) ∧ Z = w') := by
     rw [hb2]
     exact few13_c x.U x.cu x.us Z hokZ.ups
    have HON : Hid (fewOn x = (b1 && b2)) := by show _ = _; rw [hb1, hb2]; rfl
    have l3 : Z.cell? ⟨wr.heap.size, 3, none⟩ = some (.slice x.U x.us.length x.cu) := by
     have h0 : Y.heap[wr.heap.size]? = some (.cells #[.int .i64 x.kind, .slice x.A x.k.length x.c, .slice x.B x.v.length x.e, .slice x.U x.us.length x.cu] 34 (0, 0)) := by rw [hY]; exact heap_alloc_new wr _
     rw [cell_of_cells ((hZ1.block _ (lt_of_heap h0)).trans h0)]
     rfl
    have HY := Lib.hid hY
    have HZ := Lib.hid hZ
    clear hx hok hr hr2 hok2 hokZ hY hZ hY1 hZ1 hsz hb1 hb2
    cases b1 with
    | false =>
     go_wp2_with fail
     rw [← HY.out, ← HZ.out]
     refine HF1.out.mono ?_
     rintro _ _ ⟨rfl, rfl⟩
     go_wp2_with fail
     go_ret
     exact ⟨ret_i64 (fewI_no (fewO_no_at HE.out (by rw [HON.out]; rfl))).symm, HBZ.out⟩
    | true =>
     cases b2 with
     | false =>
      go_wp2_with fail
      rw [← HY.out, ← HZ.out]
      refine HF1.out.mono ?_
      rintro _ _ ⟨rfl, rfl⟩
      go_wp2_with fail
      refine HF2.out.mono ?_
      rintro _ _ ⟨rfl, rfl⟩
      go_wp2_with fail
      go_ret
      exact ⟨ret_i64 (fewI_no (fewO_no_at HE.out (by rw [HON.out]; rfl))).symm, HBZ.out⟩
     | true =>
      go_wp2_with fail
      rw [← HY.out, ← HZ.out]
      refine HF1.out.mono ?_
      rintro _ _ ⟨rfl, rfl⟩
      go_wp2_with fail
      refine HF2.out.mono ?_
      rintro _ _ ⟨rfl, rfl⟩
      have HVV : Hid (∀ j y, j < k + 1 → os[j]? = some y → fewOn y = true) := fun j y hj hy => by
       rcases Nat.lt_or_ge j k with h | h
       ·exact HV.out j y h hy
       ·obtain rfl : j = k := by omega
        obtain rfl : x = y := Option.some.inj (HE.out.symm.trans hy)
        rw [HON.out]
        rfl
      go_wp2_with fail
      go_roundg (os.length - (k + 1))
      case measure => omega
      case rel => exact ⟨k + 1, by go_num, by omega, rfl, HVV, HBZ.out⟩
   ·obtain rfl : k = os.length := by omega
    have hd : decide (os.length < os.length) = false := decide_eq_false (by omega)
    have HF : Hid (fewO os = true) := fewO_all hl fun j e h => HV.out j e h
    go_wp2_with fail
    go_ret
    exact ⟨ret_i64 (fewI_yes HF.out).symm, HB.out⟩
end
section
open Go.RowKit
def TS (M : World → Int → Tv → Prop) (Tr : World → Nat → Nat → Int → Tv → Prop) (w : World) (p b : Nat) (n : Int) (c : Nat) (l : List Ent) : Prop := (∃ T, Tr w p b n T ∧ M w n T ∧ IsMap l T) ∧ ∃ c', c' ≤ c ∧ Hs w b n c'
theorem TS.below {M : World → Int → Tv → Prop} {Tr : World → Nat → Nat → Int → Tv → Prop} (nd : NdV M) (tv : TrV M Tr) {w w' : World} {p b : Nat} {n : Int} {c : Nat} {l : List Ent} (h : TS M Tr w p b n c l) (hb : Below w.heap.size w w') : TS M Tr w' p b n c l := by
 obtain ⟨⟨T, h1, h2, h3⟩, c', h4, h5⟩ := h
 exact ⟨⟨T, tv.keep h1 (Keep.of_below (L := fun _ => False) hb) (fun h => h), nd.below h2 hb, h3⟩, c', h4, h5.keep (Keep.of_below (L := fun _ => False) hb) fun h => h⟩
def doO (l : List Ent) (x : On) : List Ent :=
 if x.kind = 0 then (if rightK x.k x.v = 0 then putK l ⟨x.k, x.v⟩ else l)
 else if x.kind = 1 then l
 else if x.kind = 2 then (if x.k.length = 32 then rmK l x.k else l)
 else (if (checkU (x.us.map Un.up)).2 = 0 then appU l (x.us.map Un.up) else l)
structure DoPre (M : World → Int → Tv → Prop) (Tr : World → Nat → Nat → Int → Tv → Prop) (w : World) (p b : Nat) (n : Int) (c : Nat) (A : Option Addr) (es : List En) (x : On) (T : Tv) : Prop where
 tr : Tr w p b n T
 hs : Hs w b n c
 hc : c ≤ 19000000
 vars : Vars w
 err : Ft.ErrVar w
 ms : M w n T
 im : IsMap (es.map En.ent) T
 asc : Asc (es.map En.ent)
 len : es.length ≤ 480
 ea : EA w A es
 hvl : ∀ e ∈ es, e.v.length ≤ 70000
 ok : OnOk w x
 few : x.k.length ≤ 100 ∧ x.v.length ≤ 70000 ∧ x.us.length ≤ 20 ∧ ∀ u ∈ x.us, u.k.length ≤ 100 ∧ u.v.length ≤ 70000
theorem DoPre.below {M : World → Int → Tv → Prop} {Tr : World → Nat → Nat → Int → Tv → Prop} (nd : NdV M) (tv : TrV M Tr) {w w' : World} {p b : Nat} {n : Int} {c : Nat} {A : Option Addr} {es : List En} {x : On} {T : Tv} (h : DoPre M Tr w p b n c A es x T) (hb : Below w.heap.size w w') : DoPre M Tr w' p b n c A es x T where
 tr := tv.keep h.tr (Keep.of_below (L := fun _ => False) hb) fun h => h
 hs := h.hs.keep (Keep.of_below (L := fun _ => False) hb) fun h => h
 hc := h.hc
 vars := h.vars.below hb
 err := h.err.below hb
 ms := nd.below h.ms hb
 im := h.im
 asc := h.asc
 len := h.len
 ea := h.ea.below hb
 hvl := h.hvl
 ok := h.ok.below hb
 few := h.few
def DoPost (M : World → Int → Tv → Prop) (Tr : World → Nat → Nat → Int → Tv → Prop) (w : World) (p b : Nat) (n : Int) (c : Nat) (es : List En) (x : On) (e : Ending) (w' : World) : Prop :=
 ∃ (A' : Option Addr) (c' : Nat) (es' : List En), e = .returned (.tuple #[.slice A' es'.length c', .bool false]) ∧ EA w' A' es' ∧ es'.map En.ent = doO (es.map En.ent) x ∧ (∀ e ∈ es', e.v.length ≤ 70000) ∧ es'.length ≤ es.length + 20 ∧ TS M Tr w' p b n (c + 90000) (doO (es.map En.ent) x) ∧ Keep (fun i => i = b ∨ i = p) w w'
theorem DoPre.ctl {M : World → Int → Tv → Prop} {Tr : World → Nat → Nat → Int → Tv → Prop} (tv : TrV M Tr) {w : World} {p b : Nat} {n : Int} {c : Nat} {A : Option Addr} {es : List En} {x : On} {T : Tv} (h : DoPre M Tr w p b n c A es x T) : ∀ i, (i = b ∨ i = p) → Ctl w i := fun i hi => by
 rcases hi with rfl | rfl
 ·exact h.hs.ctl
 ·exact tv.ctl h.tr
theorem do_keep {M : World → Int → Tv → Prop} {Tr : World → Nat → Nat → Int → Tv → Prop} (nd : NdV M) (tv : TrV M Tr) {w Y w1 w' : World} {p b m : Nat} {n : Int} {c : Nat} {A : Option Addr} {cA : Nat} {es : List En} {x : On} {T : Tv} (h : DoPre M Tr w p b n c A es x T) (hY : Below w.heap.size w Y) (hi : Idle Y b n m w1) (hm : m ≤ c + 90000) (hB : Below w1.heap.size w1 w') (hd : doO (es.map En.ent) x = es.map En.ent) :
  DoPost M Tr w p b n c es x (.returned (.tuple #[.slice A es.length cA, .bool false])) w' := by
 have hk : Keep (fun i => i = b) w w' := ((Keep.of_below hY).trans hi.keep).trans (Keep.of_below hB)
 obtain ⟨c', h1, h2⟩ := hi.hs
 refine ⟨A, cA, es, rfl, h.ea.ctl hk (fun i e => by have e2 : i = b := e; rw [e2]; exact h.hs.ctl), hd.symm, h.hvl, by omega, ?_, hk.mono fun _ h => .inl h⟩
 rw [hd]
 exact ⟨⟨T, tv.keep h.tr hk (tv.ne h.tr h.hs), nd.hs h.ms h.hs hk, h.im⟩, c', by omega, h2.keep (Keep.of_below (L := fun _ => False) hB) fun h => h⟩
theorem idle_refl {w : World} {b : Nat} {n : Int} {c : Nat} (h : Hs w b n c) : Idle w b n c w := ⟨⟨c, Nat.le_refl _, h⟩, Keep.refl _ _⟩
theorem do_new {M : World → Int → Tv → Prop} {Tr : World → Nat → Nat → Int → Tv → Prop} (nd : NdV M) (tv : TrV M Tr) {w Y w1 w' : World} {p b m : Nat} {n : Int} {c : Nat} {A' : Option Addr} {cA' : Nat} {es es' : List En} {x : On} {T T' : Tv} (hY : Below w.heap.size w Y) (hi : Done M Tr Y p b n (doO (es.map En.ent) x) T T' m w1) (hm : m ≤ c + 90000) (hB : Below w1.heap.size w1 w')
  (hE : EA w' A' es') (he : es'.map En.ent = doO (es.map En.ent) x) (hv : ∀ e ∈ es', e.v.length ≤ 70000) (hl : es'.length ≤ es.length + 20) :
  DoPost M Tr w p b n c es x (.returned (.tuple #[.slice A' es'.length cA', .bool false])) w' := by
 obtain ⟨c', h1, h2⟩ := hi.hs
 have hts : TS M Tr w1 p b n (c + 90000) (doO (es.map En.ent) x) := ⟨⟨T', hi.tr, hi.ms, hi.im⟩, c', by omega, h2⟩
 exact ⟨A', cA', es', rfl, hE, he, hv, hl, hts.below nd tv hB, ((Keep.of_below hY).trans hi.keep).trans (Keep.of_below hB)⟩
theorem valK_getE (es : List En) (k : List UInt8) : valK (es.map En.ent) k = (getE es k).map fun e => e.v := by
 induction es with
 | nil => rfl
 | cons e r ih =>
  rw [List.map_cons, valK_cons]
  unfold getE
  rw [List.find?_cons]
  by_cases h : e.k = k
  ·rw [if_pos (show e.ent.k = k from h), decide_eq_true h]
   rfl
  ·rw [if_neg (show ¬ e.ent.k = k from h), decide_eq_false h]
   exact ih
theorem hasK_getE (es : List En) (k : List UInt8) : hasK (es.map En.ent) k = (getE es k).isSome := by
 induction es with
 | nil => rfl
 | cons e r ih =>
  unfold hasK getE at *
  rw [List.map_cons, List.any_cons, List.find?_cons]
  by_cases h : e.k = k
  ·rw [decide_eq_true (show e.ent.k = k from h), decide_eq_true h]
   rfl
  ·rw [decide_eq_false (show ¬ e.ent.k = k from h), decide_eq_false h, Bool.false_or]
   exact ih
theorem do_put_no {M : World → Int → Tv → Prop} {Tr : World → Nat → Nat → Int → Tv → Prop} (nd : NdV M) (tv : TrV M Tr) (w : World) (p b : Nat) (n : Int) (c : Nat) (A : Option Addr) (cA : Nat) (es : List En) (x : On) (T : Tv) (hp : DoPre M Tr w p b n c A es x T) (hk : x.kind = 0) (hr : rightK x.k x.v ≠ 0) : Calls Tryz.prog 13 #[ptr p, .slice A es.length cA, .agg #[.int .i64 x.kind, .slice x.A x.k.length x.c, .slice x.B x.v.length x.e, .slice x.U x.us.length x.cu]] w (DoPost M Tr w p b n c es x) := by
 obtain ⟨Y, hY⟩ : ∃ Y, Y = w.alloc (.cells #[.int .i64 x.kind, .slice x.A x.k.length x.c, .slice x.B x.v.length x.e, .slice x.U x.us.length x.cu] 34) := ⟨_, rfl⟩
 have hbY : Below w.heap.size w Y := by rw [hY]; exact (Below.refl _ _).alloc (Nat.le_refl _) _
 have hyb : Y.heap[w.heap.size]? = some (.cells #[.int .i64 x.kind, .slice x.A x.k.length x.c, .slice x.B x.v.length x.e, .slice x.U x.us.length x.cu] 34 (0, 0)) := by rw [hY]; exact heap_alloc_new w _
 have hpw := tv.lt hp.tr
 have hbw := lt_of_heap hp.hs
 have LC : Hid (∀ v, Keep (fun i => i = b ∨ i = p) Y v → v.cell? ⟨w.heap.size, 0, none⟩ = some (.int .i64 x.kind) ∧ v.cell? ⟨w.heap.size, 1, none⟩ = some (.slice x.A x.k.length x.c) ∧ v.cell? ⟨w.heap.size, 2, none⟩ = some (.slice x.B x.v.length x.e) ∧ v.cell? ⟨w.heap.size, 3, none⟩ = some (.slice x.U x.us.length x.cu)) := fun v hv => by
  have h := hv.heap hyb (fun e => by omega)
  exact ⟨by rw [cell_of_cells h]; rfl, by rw [cell_of_cells h]; rfl, by rw [cell_of_cells h]; rfl, by rw [cell_of_cells h]; rfl⟩
 have HP0 := Lib.hid hp
 have HP := Lib.hid (hp.below nd tv hbY)
 have HBY := Lib.hid hbY
 have HYY := Lib.hid hY
 have HKR : Hid (Keep (fun i => i = b ∨ i = p) Y Y) := Keep.refl _ Y
 have k0 : (x.kind == 0) = true := beq_iff_eq.2 hk
 obtain ⟨E, hE⟩ : ∃ E, E = rightK x.k x.v := ⟨_, rfl⟩
 have d1 : (E != 0) = true := by rw [hE]; simp [hr]
 have HE : Hid (E ≠ 0) := by show _ ≠ _; rw [hE]; exact hr
 have HD : Hid (doO (es.map En.ent) x = es.map En.ent) := by show _ = _; unfold doO; rw [if_pos hk, if_neg hr]
 have HRT := Lib.hid (right13_c x.A x.B x.c x.e x.k x.v Y)
 have HPU := Lib.hid ((tv.put Y p b n c (es.map En.ent) T x.A x.B x.c x.e x.k x.v HP.out.tr HP.out.hs (by have := HP.out.hc; omega) HP.out.vars HP.out.ms HP.out.im HP.out.asc (by rw [List.length_map]; have := HP.out.len; omega) HP.out.ok.key HP.out.ok.kc HP.out.ok.val HP.out.ok.vc (by have := HP.out.few.1; omega) HP.out.few.2.1).mono fun e w' h => h.2 hr)
 rw [← hE] at HRT HPU
 clear hp hY hbY hyb hpw hbw hk hr hE
 unfold ptr
 go_enter Tryz.func13, Tryz.ntmps13
 go_wp2_with fail
 rw [← HYY.out]
 refine HRT.out.mono ?_
 rintro _ _ ⟨rfl, rfl⟩
 have cy := LC.out Y HKR.out
 go_wp2_with fail
 refine HPU.out.mono ?_
 rintro _ w1 ⟨v, rfl, hW, hI⟩
 have HI := Lib.hid hI
 have HWR := Lib.hid (wrong_c (opB putB) 0 E v w1 hW HE.out (errVar_ctl HP.out.err hI.keep fun i e => by have e2 : i = b := e; rw [e2]; exact HP.out.hs.ctl))
 clear hW hI HPU HRT cy
 go_wp2_with fail
 refine HWR.out.mono ?_
 rintro _ w2 ⟨rfl, hB⟩
 have HB := Lib.hid hB
 clear hB HWR
 go_wp2_with fail
 go_ret2
 exact do_keep nd tv HP0.out HBY.out HI.out (by omega) HB.out HD.out
theorem do_put_yes {M : World → Int → Tv → Prop} {Tr : World → Nat → Nat → Int → Tv → Prop} (nd : NdV M) (tv : TrV M Tr) (w : World) (p b : Nat) (n : Int) (c : Nat) (A : Option Addr) (cA : Nat) (es : List En) (x : On) (T : Tv) (hp : DoPre M Tr w p b n c A es x T) (hk : x.kind = 0) (hr : rightK x.k x.v = 0) : Calls Tryz.prog 13 #[ptr p, .slice A es.length cA, .agg #[.int .i64 x.kind, .slice x.A x.k.length x.c, .slice x.B x.v.length x.e, .slice x.U x.us.length x.cu]] w (DoPost M Tr w p b n c es x) := by
 obtain ⟨Y, hY⟩ : ∃ Y, Y = w.alloc (.cells #[.int .i64 x.kind, .slice x.A x.k.length x.c, .slice x.B x.v.length x.e, .slice x.U x.us.length x.cu] 34) := ⟨_, rfl⟩
 have hbY : Below w.heap.size w Y := by rw [hY]; exact (Below.refl _ _).alloc (Nat.le_refl _) _
 have hyb : Y.heap[w.heap.size]? = some (.cells #[.int .i64 x.kind, .slice x.A x.k.length x.c, .slice x.B x.v.length x.e, .slice x.U x.us.length x.cu] 34 (0, 0)) := by rw [hY]; exact heap_alloc_new w _
 have hpw := tv.lt hp.tr
 have hbw := lt_of_heap hp.hs
 have LC : Hid (∀ v, Keep (fun i => i = b ∨ i = p) Y v → v.cell? ⟨w.heap.size, 0, none⟩ = some (.int .i64 x.kind) ∧ v.cell? ⟨w.heap.size, 1, none⟩ = some (.slice x.A x.k.length x.c) ∧ v.cell? ⟨w.heap.size, 2, none⟩ = some (.slice x.B x.v.length x.e) ∧ v.cell? ⟨w.heap.size, 3, none⟩ = some (.slice x.U x.us.length x.cu)) := fun v hv => by
  have h := hv.heap hyb (fun e => by omega)
  exact ⟨by rw [cell_of_cells h]; rfl, by rw [cell_of_cells h]; rfl, by rw [cell_of_cells h]; rfl, by rw [cell_of_cells h]; rfl⟩
 have HP0 := Lib.hid hp
 have HP := Lib.hid (hp.below nd tv hbY)
 have HBY := Lib.hid hbY
 have HYY := Lib.hid hY
 have HKR : Hid (Keep (fun i => i = b ∨ i = p) Y Y) := Keep.refl _ Y
 have k0 : (x.kind == 0) = true := beq_iff_eq.2 hk
 have HD : Hid (doO (es.map En.ent) x = putK (es.map En.ent) ⟨x.k, x.v⟩) := by show _ = _; unfold doO; rw [if_pos hk, if_pos hr]
 have HRT := Lib.hid (right13_c x.A x.B x.c x.e x.k x.v Y)
 have HPU := Lib.hid ((tv.put Y p b n c (es.map En.ent) T x.A x.B x.c x.e x.k x.v HP.out.tr HP.out.hs (by have := HP.out.hc; omega) HP.out.vars HP.out.ms HP.out.im HP.out.asc (by rw [List.length_map]; have := HP.out.len; omega) HP.out.ok.key HP.out.ok.kc HP.out.ok.val HP.out.ok.vc (by have := HP.out.few.1; omega) HP.out.few.2.1).mono fun e w' h => h.1 hr)
 have HKL : Hid (x.k.length = 32) := (rightK_zero hr).1
 rw [hr] at HRT
 obtain ⟨en, hen⟩ : ∃ en : En, en = ⟨x.k, x.B, x.v, x.e⟩ := ⟨_, rfl⟩
 have HNE : Hid ((putE es en).map En.ent = putK (es.map En.ent) ⟨x.k, x.v⟩ ∧ (∀ e ∈ putE es en, e.v.length ≤ 70000) ∧ (putE es en).length ≤ es.length + 20) := by
  refine ⟨by rw [putE_ent, hen]; rfl, fun e he => ?_, by have := putE_len es en; omega⟩
  rcases putE_mem he with rfl | he
  ·rw [hen]; exact hp.few.2.1
  ·exact hp.hvl e he
 have HEO : Hid (∀ y, BA y x.B x.v → EnOk y en) := fun y hy => by rw [hen]; exact ⟨(rightK_zero hr).1, hp.ok.vc, hy⟩
 have HEN := Lib.hid hen
 clear hp hY hbY hyb hpw hbw hk hr hen
 unfold ptr
 go_enter Tryz.func13, Tryz.ntmps13
 go_wp2_with fail
 rw [← HYY.out]
 refine HRT.out.mono ?_
 rintro _ _ ⟨rfl, rfl⟩
 have cy := LC.out Y HKR.out
 go_wp2_with fail
 refine HPU.out.mono ?_
 rintro _ X ⟨T1, rfl, hDN⟩
 have HDN := Lib.hid hDN
 clear hDN HPU HRT cy
 go_wp2_with fail
 refine (wrong_nil (opB putB) 0 X).mono ?_
 rintro _ _ ⟨rfl, rfl⟩
 have HEX : Hid (EA X A es) := HP.out.ea.ctl HDN.out.keep (HP.out.ctl tv)
 have HKX : Hid (BA X x.A x.k) := HP.out.ok.key.ctl HDN.out.keep (HP.out.ctl tv)
 have HVX : Hid (BA X x.B x.v) := HP.out.ok.val.ctl HDN.out.keep (HP.out.ctl tv)
 have LV : Hid (∀ v, Below X.heap.size X v → v.cell? ⟨w.heap.size, 1, none⟩ = some (.slice x.A x.k.length x.c) ∧ v.cell? ⟨w.heap.size, 2, none⟩ = some (.slice x.B x.v.length x.e)) := fun v hv => by
  have := LC.out v (HDN.out.keep.trans (Keep.of_below hv))
  exact ⟨this.2.1, this.2.2.1⟩
 have HOF : Hid (∀ y, Below X.heap.size X y → Calls Tryz.prog 21 #[.slice x.A x.k.length x.c] y fun e w' => e = .returned (.agg (bA x.k)) ∧ Below y.heap.size y w') := fun y hy => of2_c x.A x.c x.k y (HKX.out.below hy) HKL.out
 have HP7 : Hid (∀ y, Below X.heap.size X y → Calls Tryz.prog 34 #[.slice A es.length cA, .agg (bA x.k), .slice x.B x.v.length x.e] y fun e w' => ∃ (A9 : Option Addr) (c9 : Nat), e = .returned (.slice A9 (putE es en).length c9) ∧ EA w' A9 (putE es en) ∧ Below y.heap.size y w') := fun y hy => by
  have h1 := put7_c A cA es en y (HEX.out.below hy) (by have := HP.out.len; omega) (HEO.out y (HVX.out.below hy))
  have hek := HEO.out
  rw [HEN.out] at h1 hek ⊢
  refine h1.mono ?_
  rintro _ w' ⟨v, rfl, hO, hB⟩
  obtain ⟨A9, c9, rfl, _, hE⟩ := hO.ea (fun e he => by
   rcases putE_mem he with rfl | he
   ·exact hek w' ((HVX.out.below hy).below hB)
   ·exact (((HEX.out.mem e he).below hy)).below hB)
  exact ⟨A9, c9, rfl, hE, hB⟩
 obtain ⟨gs, hgs⟩ : ∃ gs, gs = putE es en := ⟨_, rfl⟩
 rw [← hgs] at HP7 HNE
 clear hgs
 go_wp2_with fail
 refine wp_region_held_drew (S := fun w' => Below X.heap.size X w') (by kernel_rfl) ((Below.refl _ _).drew) (fun hHeld => ?_)
 have hb0 : Below X.heap.size X X.drew := (Below.refl _ _).drew
 refine x_t (i := 0) (oi := { dst := some 40, op := .move (.tmp 1), .. }) (v := ?_) rfl (Or.inl ⟨by rfl, ?_⟩) ?_
 rotate_left 1
 ·intro v hSv
  clear hSv
  go_simp
  try with_reducible rfl
 try simp only [Act.put, x_A, x_0, x_1]
 refine x_t (i := 1) (oi := { dst := some 41, op := .fieldAddr _ (.tmp 5) 1, .. }) (v := ?_) rfl (Or.inl ⟨by rfl, ?_⟩) ?_
 rotate_left 1
 ·intro v hSv
  clear hSv
  go_simp
  try with_reducible rfl
 try simp only [Act.put, x_A, x_0, x_1]
 refine x_t (i := 2) (oi := { dst := some 42, op := .load _ (.tmp 41), .. }) (v := ?_) rfl (Or.inl ⟨by rfl, ?_⟩) ?_
 rotate_left 1
 ·intro v hSv
  have hv1 := LV.out v hSv |>.1
  clear hSv
  go_simp
  try with_reducible rfl
 try simp only [Act.put, x_A, x_0, x_1]
 refine x_t (i := 4) (oi := { dst := some 44, op := .fieldAddr _ (.tmp 5) 2, .. }) (v := ?_) rfl (Or.inl ⟨by rfl, ?_⟩) ?_
 rotate_left 1
 ·intro v hSv
  clear hSv
  go_simp
  try with_reducible rfl
 try simp only [Act.put, x_A, x_0, x_1]
 refine x_t (i := 5) (oi := { dst := some 45, op := .load _ (.tmp 44), .. }) (v := ?_) rfl (Or.inl ⟨by rfl, ?_⟩) ?_
 rotate_left 1
 ·intro v hSv
  have hv1 := LV.out v hSv |>.2
  clear hSv
  go_simp
  try with_reducible rfl
 try simp only [Act.put, x_A, x_0, x_1]
 refine wpAnyH_ready (rs := [3]) (by kernel_rfl) (by simp) ?_
 refine AllReadyH.cons (o := { dst := some 43, op := .call _, .. }) rfl (fun K hK => ?_) AllReadyH.nil
 go_simp
 refine (HOF.out X.drew (hb0)).mono ?_
 rintro e y1 ⟨rfl, hb⟩
 have hb1 : Below X.heap.size X y1 := keeps (hb0) hb
 clear hb
 go_wp2_with fail
 refine hK.out _ _ (hb1) (fun hHeld => ?_)
 clear hK K
 try simp only [Act.put, x_A, x_0, x_1]
 refine wpAnyH_ready (rs := [6]) (by kernel_rfl) (by simp) ?_
 refine AllReadyH.cons (o := { dst := some 46, op := .call _, .. }) rfl (fun K hK => ?_) AllReadyH.nil
 go_simp
 refine (HP7.out y1 (hb1)).mono ?_
 rintro e y2 ⟨A9, c9, rfl, hE9, hb⟩
 have hb2 : Below X.heap.size X y2 := keeps (hb1) hb
 have HE9 := Lib.hid hE9
 clear hE9
 clear hb
 go_wp2_with fail
 refine hK.out _ _ (hb2) (fun hHeld => ?_)
 clear hK K
 try simp only [Act.put, x_A, x_0, x_1]
 refine x_t (i := 7) (oi := { dst := some 6, op := .assign (.tmp 46), .. }) (v := ?_) rfl (Or.inl ⟨by rfl, ?_⟩) ?_
 rotate_left 1
 ·intro v hSv
  clear hSv
  go_simp
  try with_reducible rfl
 try simp only [Act.put, x_A, x_0, x_1]
 refine x_t (i := 8) (oi := { dst := some 7, op := .assign (.const (.bool false)), .. }) (v := ?_) rfl (Or.inl ⟨by rfl, ?_⟩) ?_
 rotate_left 1
 ·intro v hSv
  clear hSv
  go_simp
  try with_reducible rfl
 try simp only [Act.put, x_A, x_0, x_1]
 refine wpAnyH_done (by kernel_rfl) ?_ _
 have HBF := Lib.hid ((hb2))
 go_wp2_with fail
 go_ret2
 exact do_new nd tv HBY.out (by rw [HD.out]; exact HDN.out) (by omega) HBF.out HE9.out (by rw [HD.out]; exact HNE.out.1) HNE.out.2.1 HNE.out.2.2
theorem do_get_some {M : World → Int → Tv → Prop} {Tr : World → Nat → Nat → Int → Tv → Prop} (nd : NdV M) (tv : TrV M Tr) (w : World) (p b : Nat) (n : Int) (c : Nat) (A : Option Addr) (cA : Nat) (es : List En) (x : On) (T : Tv) (hp : DoPre M Tr w p b n c A es x T) (hk : x.kind = 1) (hl : x.k.length = 32) (g : En) (hg : getE es x.k = some g) : Calls Tryz.prog 13 #[ptr p, .slice A es.length cA, .agg #[.int .i64 x.kind, .slice x.A x.k.length x.c, .slice x.B x.v.length x.e, .slice x.U x.us.length x.cu]] w (DoPost M Tr w p b n c es x) := by
 obtain ⟨Y, hY⟩ : ∃ Y, Y = w.alloc (.cells #[.int .i64 x.kind, .slice x.A x.k.length x.c, .slice x.B x.v.length x.e, .slice x.U x.us.length x.cu] 34) := ⟨_, rfl⟩
 have hbY : Below w.heap.size w Y := by rw [hY]; exact (Below.refl _ _).alloc (Nat.le_refl _) _
 have hyb : Y.heap[w.heap.size]? = some (.cells #[.int .i64 x.kind, .slice x.A x.k.length x.c, .slice x.B x.v.length x.e, .slice x.U x.us.length x.cu] 34 (0, 0)) := by rw [hY]; exact heap_alloc_new w _
 have hpw := tv.lt hp.tr
 have hbw := lt_of_heap hp.hs
 have LC : Hid (∀ v, Keep (fun i => i = b ∨ i = p) Y v → v.cell? ⟨w.heap.size, 0, none⟩ = some (.int .i64 x.kind) ∧ v.cell? ⟨w.heap.size, 1, none⟩ = some (.slice x.A x.k.length x.c) ∧ v.cell? ⟨w.heap.size, 2, none⟩ = some (.slice x.B x.v.length x.e) ∧ v.cell? ⟨w.heap.size, 3, none⟩ = some (.slice x.U x.us.length x.cu)) := fun v hv => by
  have h := hv.heap hyb (fun e => by omega)
  exact ⟨by rw [cell_of_cells h]; rfl, by rw [cell_of_cells h]; rfl, by rw [cell_of_cells h]; rfl, by rw [cell_of_cells h]; rfl⟩
 have HP0 := Lib.hid hp
 have HP := Lib.hid (hp.below nd tv hbY)
 have HBY := Lib.hid hbY
 have HYY := Lib.hid hY
 have HKR : Hid (Keep (fun i => i = b ∨ i = p) Y Y) := Keep.refl _ Y
 have k0 : (x.kind == 0) = false := beq_eq_false_iff_ne.2 (by rw [hk]; decide)
 have k1 : (x.kind == 1) = true := beq_iff_eq.2 hk
 have HD : Hid (doO (es.map En.ent) x = es.map En.ent) := by show _ = _; unfold doO; rw [if_neg (by rw [hk]; decide), if_pos hk]
 have hr : rightK x.k [] = 0 := by unfold rightK; rw [if_pos hl, if_neg (by decide)]
 have HRT := Lib.hid (right13_c x.A none x.c 0 x.k [] Y)
 rw [hr] at HRT
 have HOF := Lib.hid (of2_c x.A x.c x.k Y HP.out.ok.key hl)
 have HG7 : Hid (∀ y, Below Y.heap.size Y y → Calls Tryz.prog 35 #[.slice A es.length cA, .agg (bA x.k)] y fun e w' => e = .returned (.tuple #[.slice g.A g.v.length g.c, .bool true]) ∧ Below y.heap.size y w') := fun y hy => by
  have := get7_c A cA es x.k y (HP.out.ea.below hy) (by have := HP.out.len; omega) hl
  rw [hg] at this
  exact this
 have HGT : Hid (∀ y, Below Y.heap.size Y y → Calls Tryz.prog 22 #[.pointer (some ⟨p, 0, none⟩), .slice x.A x.k.length x.c] y fun e w' => ∃ B cB, e = .returned (.tuple #[.slice B g.v.length cB, .bool true, .nilIface]) ∧ BA w' B g.v ∧ Below y.heap.size y w') := fun y hy => by
  have hpy := HP.out.below nd tv hy
  refine (tv.get y p b n (es.map En.ent) T x.A x.c x.k hpy.tr hpy.ms hpy.im hpy.ok.key hpy.ok.kc (by have := hpy.few.1; omega)).mono ?_
  rintro e w' ⟨h, _⟩
  obtain ⟨B, cB, h1, h2, h3⟩ := h hl
  rw [valK_getE, hg] at h1 h2
  exact ⟨B, cB, h1, h2.ba, h3⟩
 have HGO : Hid (∀ y, Below Y.heap.size Y y → BA y g.A g.v) := fun y hy => ((HP.out.ea.mem g (List.mem_of_find?_eq_some hg)).below hy).val
 have HGL : Hid (g.v.length ≤ 70000) := hp.hvl g (List.mem_of_find?_eq_some hg)
 clear hp hY hbY hyb hpw hbw hk hl hg hr
 unfold ptr
 go_enter Tryz.func13, Tryz.ntmps13
 go_wp2_with fail
 rw [← HYY.out]
 refine HRT.out.mono ?_
 rintro _ _ ⟨rfl, rfl⟩
 have cy := LC.out Y HKR.out
 go_wp2_with fail
 refine HOF.out.mono ?_
 rintro _ w1 ⟨rfl, hB1⟩
 have HB1 := Lib.hid hB1
 clear hB1 cy HRT HOF
 go_wp2_with fail
 refine (HG7.out w1 HB1.out).mono ?_
 rintro _ w2 ⟨rfl, hB2⟩
 have HB2 := Lib.hid (HB1.out.trans (hB2.mono HB1.out.size))
 have c2 := LC.out w2 (Keep.of_below HB2.out)
 clear hB2 HG7
 go_wp2_with fail
 refine (HGT.out w2 HB2.out).mono ?_
 rintro _ w3 ⟨B, cB, rfl, hBA, hB3⟩
 have HB3 := Lib.hid (HB2.out.trans (hB3.mono HB2.out.size))
 have HBA := Lib.hid hBA
 clear hB3 hBA c2 HGT
 go_wp2_with fail
 refine (wrong_nil (opB getB) 0 w3).mono ?_
 rintro _ _ ⟨rfl, rfl⟩
 have HSM := Lib.hid (same_c B g.A cB g.c g.v g.v w3 HBA.out (HGO.out w3 HB3.out) (by have := HGL.out; omega) (by have := HGL.out; omega))
 rw [decide_eq_true rfl] at HSM
 go_wp2_with fail
 refine HSM.out.mono ?_
 rintro _ w4 ⟨rfl, hB4⟩
 have HB4 := Lib.hid (HB3.out.trans (hB4.mono HB3.out.size))
 clear hB4 HSM
 go_wp2_with fail
 go_ret2
 exact do_keep nd tv HP0.out HBY.out (idle_refl HP.out.hs) (by omega) HB4.out HD.out
theorem do_get_none {M : World → Int → Tv → Prop} {Tr : World → Nat → Nat → Int → Tv → Prop} (nd : NdV M) (tv : TrV M Tr) (w : World) (p b : Nat) (n : Int) (c : Nat) (A : Option Addr) (cA : Nat) (es : List En) (x : On) (T : Tv) (hp : DoPre M Tr w p b n c A es x T) (hk : x.kind = 1) (hl : x.k.length = 32) (hg : getE es x.k = none) : Calls Tryz.prog 13 #[ptr p, .slice A es.length cA, .agg #[.int .i64 x.kind, .slice x.A x.k.length x.c, .slice x.B x.v.length x.e, .slice x.U x.us.length x.cu]] w (DoPost M Tr w p b n c es x) := by
 obtain ⟨Y, hY⟩ : ∃ Y, Y = w.alloc (.cells #[.int .i64 x.kind, .slice x.A x.k.length x.c, .slice x.B x.v.length x.e, .slice x.U x.us.length x.cu] 34) := ⟨_, rfl⟩
 have hbY : Below w.heap.size w Y := by rw [hY]; exact (Below.refl _ _).alloc (Nat.le_refl _) _
 have hyb : Y.heap[w.heap.size]? = some (.cells #[.int .i64 x.kind, .slice x.A x.k.length x.c, .slice x.B x.v.length x.e, .slice x.U x.us.length x.cu] 34 (0, 0)) := by rw [hY]; exact heap_alloc_new w _
 have hpw := tv.lt hp.tr
 have hbw := lt_of_heap hp.hs
 have LC : Hid (∀ v, Keep (fun i => i = b ∨ i = p) Y v → v.cell? ⟨w.heap.size, 0, none⟩ = some (.int .i64 x.kind) ∧ v.cell? ⟨w.heap.size, 1, none⟩ = some (.slice x.A x.k.length x.c) ∧ v.cell? ⟨w.heap.size, 2, none⟩ = some (.slice x.B x.v.length x.e) ∧ v.cell? ⟨w.heap.size, 3, none⟩ = some (.slice x.U x.us.length x.cu)) := fun v hv => by
  have h := hv.heap hyb (fun e => by omega)
  exact ⟨by rw [cell_of_cells h]; rfl, by rw [cell_of_cells h]; rfl, by rw [cell_of_cells h]; rfl, by rw [cell_of_cells h]; rfl⟩
 have HP0 := Lib.hid hp
 have HP := Lib.hid (hp.below nd tv hbY)
 have HBY := Lib.hid hbY
 have HYY := Lib.hid hY
 have HKR : Hid (Keep (fun i => i = b ∨ i = p) Y Y) := Keep.refl _ Y
 have k0 : (x.kind == 0) = false := beq_eq_false_iff_ne.2 (by rw [hk]; decide)
 have k1 : (x.kind == 1) = true := beq_iff_eq.2 hk
 have HD : Hid (doO (es.map En.ent) x = es.map En.ent) := by show _ = _; unfold doO; rw [if_neg (by rw [hk]; decide), if_pos hk]
 have hr : rightK x.k [] = 0 := by unfold rightK; rw [if_pos hl, if_neg (by decide)]
 have HRT := Lib.hid (right13_c x.A none x.c 0 x.k [] Y)
 rw [hr] at HRT
 have HOF := Lib.hid (of2_c x.A x.c x.k Y HP.out.ok.key hl)
 have HG7 : Hid (∀ y, Below Y.heap.size Y y → Calls Tryz.prog 35 #[.slice A es.length cA, .agg (bA x.k)] y fun e w' => e = .returned (.tuple #[.slice none 0 0, .bool false]) ∧ Below y.heap.size y w') := fun y hy => by
  have := get7_c A cA es x.k y (HP.out.ea.below hy) (by have := HP.out.len; omega) hl
  rw [hg] at this
  exact this
 have HGT : Hid (∀ y, Below Y.heap.size Y y → Calls Tryz.prog 22 #[.pointer (some ⟨p, 0, none⟩), .slice x.A x.k.length x.c] y fun e w' => ∃ B cB, e = .returned (.tuple #[.slice B [].length cB, .bool false, .nilIface]) ∧ BA w' B [] ∧ Below y.heap.size y w') := fun y hy => by
  have hpy := HP.out.below nd tv hy
  refine (tv.get y p b n (es.map En.ent) T x.A x.c x.k hpy.tr hpy.ms hpy.im hpy.ok.key hpy.ok.kc (by have := hpy.few.1; omega)).mono ?_
  rintro e w' ⟨h, _⟩
  obtain ⟨B, cB, h1, h2, h3⟩ := h hl
  rw [valK_getE, hg] at h1 h2
  exact ⟨B, cB, h1, h2.ba, h3⟩
 clear hp hY hbY hyb hpw hbw hk hl hg hr
 unfold ptr
 go_enter Tryz.func13, Tryz.ntmps13
 go_wp2_with fail
 rw [← HYY.out]
 refine HRT.out.mono ?_
 rintro _ _ ⟨rfl, rfl⟩
 have cy := LC.out Y HKR.out
 go_wp2_with fail
 refine HOF.out.mono ?_
 rintro _ w1 ⟨rfl, hB1⟩
 have HB1 := Lib.hid hB1
 clear hB1 cy HRT HOF
 go_wp2_with fail
 refine (HG7.out w1 HB1.out).mono ?_
 rintro _ w2 ⟨rfl, hB2⟩
 have HB2 := Lib.hid (HB1.out.trans (hB2.mono HB1.out.size))
 have c2 := LC.out w2 (Keep.of_below HB2.out)
 clear hB2 HG7
 go_wp2_with fail
 refine (HGT.out w2 HB2.out).mono ?_
 rintro _ w3 ⟨B, cB, rfl, hBA, hB3⟩
 have HB3 := Lib.hid (HB2.out.trans (hB3.mono HB2.out.size))
 have HBA := Lib.hid hBA
 clear hB3 hBA c2 HGT
 go_wp2_with fail
 refine (wrong_nil (opB getB) 0 w3).mono ?_
 rintro _ _ ⟨rfl, rfl⟩
 have HSM := Lib.hid (same_c B none cB 0 [] [] w3 HBA.out (BA_nil _ _) (by decide) (by decide))
 rw [decide_eq_true rfl] at HSM
 go_wp2_with fail
 refine HSM.out.mono ?_
 rintro _ w4 ⟨rfl, hB4⟩
 have HB4 := Lib.hid (HB3.out.trans (hB4.mono HB3.out.size))
 clear hB4 HSM
 go_wp2_with fail
 go_ret2
 exact do_keep nd tv HP0.out HBY.out (idle_refl HP.out.hs) (by omega) HB4.out HD.out
theorem do_get_no {M : World → Int → Tv → Prop} {Tr : World → Nat → Nat → Int → Tv → Prop} (nd : NdV M) (tv : TrV M Tr) (w : World) (p b : Nat) (n : Int) (c : Nat) (A : Option Addr) (cA : Nat) (es : List En) (x : On) (T : Tv) (hp : DoPre M Tr w p b n c A es x T) (hk : x.kind = 1) (hl : x.k.length ≠ 32) : Calls Tryz.prog 13 #[ptr p, .slice A es.length cA, .agg #[.int .i64 x.kind, .slice x.A x.k.length x.c, .slice x.B x.v.length x.e, .slice x.U x.us.length x.cu]] w (DoPost M Tr w p b n c es x) := by
 obtain ⟨Y, hY⟩ : ∃ Y, Y = w.alloc (.cells #[.int .i64 x.kind, .slice x.A x.k.length x.c, .slice x.B x.v.length x.e, .slice x.U x.us.length x.cu] 34) := ⟨_, rfl⟩
 have hbY : Below w.heap.size w Y := by rw [hY]; exact (Below.refl _ _).alloc (Nat.le_refl _) _
 have hyb : Y.heap[w.heap.size]? = some (.cells #[.int .i64 x.kind, .slice x.A x.k.length x.c, .slice x.B x.v.length x.e, .slice x.U x.us.length x.cu] 34 (0, 0)) := by rw [hY]; exact heap_alloc_new w _
 have hpw := tv.lt hp.tr
 have hbw := lt_of_heap hp.hs
 have LC : Hid (∀ v, Keep (fun i => i = b ∨ i = p) Y v → v.cell? ⟨w.heap.size, 0, none⟩ = some (.int .i64 x.kind) ∧ v.cell? ⟨w.heap.size, 1, none⟩ = some (.slice x.A x.k.length x.c) ∧ v.cell? ⟨w.heap.size, 2, none⟩ = some (.slice x.B x.v.length x.e) ∧ v.cell? ⟨w.heap.size, 3, none⟩ = some (.slice x.U x.us.length x.cu)) := fun v hv => by
  have h := hv.heap hyb (fun e => by omega)
  exact ⟨by rw [cell_of_cells h]; rfl, by rw [cell_of_cells h]; rfl, by rw [cell_of_cells h]; rfl, by rw [cell_of_cells h]; rfl⟩
 have HP0 := Lib.hid hp
 have HP := Lib.hid (hp.below nd tv hbY)
 have HBY := Lib.hid hbY
 have HYY := Lib.hid hY
 have HKR : Hid (Keep (fun i => i = b ∨ i = p) Y Y) := Keep.refl _ Y
 have k0 : (x.kind == 0) = false := beq_eq_false_iff_ne.2 (by rw [hk]; decide)
 have k1 : (x.kind == 1) = true := beq_iff_eq.2 hk
 have HD : Hid (doO (es.map En.ent) x = es.map En.ent) := by show _ = _; unfold doO; rw [if_neg (by rw [hk]; decide), if_pos hk]
 have hr : rightK x.k [] = 2 := by unfold rightK; rw [if_neg hl]
 have HRT := Lib.hid (right13_c x.A none x.c 0 x.k [] Y)
 rw [hr] at HRT
 have HGT := Lib.hid ((tv.get Y p b n (es.map En.ent) T x.A x.c x.k HP.out.tr HP.out.ms HP.out.im HP.out.ok.key HP.out.ok.kc (by have := HP.out.few.1; omega)).mono fun e w' h => h.2 hl)
 clear hp hY hbY hyb hpw hbw hk hl hr
 unfold ptr
 go_enter Tryz.func13, Tryz.ntmps13
 go_wp2_with fail
 rw [← HYY.out]
 refine HRT.out.mono ?_
 rintro _ _ ⟨rfl, rfl⟩
 have cy := LC.out Y HKR.out
 go_wp2_with fail
 refine HGT.out.mono ?_
 rintro _ w1 ⟨B, cB, v, rfl, hW, hB1⟩
 have HB1 := Lib.hid hB1
 have HWR := Lib.hid (wrong_c (opB getB) 0 2 v w1 hW (by decide) (HP.out.err.below hB1))
 clear hB1 hW cy HRT HGT
 go_wp2_with fail
 refine HWR.out.mono ?_
 rintro _ w2 ⟨rfl, hB2⟩
 have HB2 := Lib.hid (HB1.out.trans (hB2.mono HB1.out.size))
 have HSM := Lib.hid (same_c B none cB 0 [] [] w2 (BA_nil _ _) (BA_nil _ _) (by decide) (by decide))
 rw [decide_eq_true rfl] at HSM
 clear hB2 HWR
 go_wp2_with fail
 refine HSM.out.mono ?_
 rintro _ w3 ⟨rfl, hB3⟩
 have HB3 := Lib.hid (HB2.out.trans (hB3.mono HB2.out.size))
 clear hB3 HSM
 go_wp2_with fail
 go_ret2
 exact do_keep nd tv HP0.out HBY.out (idle_refl HP.out.hs) (by omega) HB3.out HD.out
theorem do_del_no {M : World → Int → Tv → Prop} {Tr : World → Nat → Nat → Int → Tv → Prop} (nd : NdV M) (tv : TrV M Tr) (w : World) (p b : Nat) (n : Int) (c : Nat) (A : Option Addr) (cA : Nat) (es : List En) (x : On) (T : Tv) (hp : DoPre M Tr w p b n c A es x T) (hk : x.kind = 2) (hl : x.k.length ≠ 32) : Calls Tryz.prog 13 #[ptr p, .slice A es.length cA, .agg #[.int .i64 x.kind, .slice x.A x.k.length x.c, .slice x.B x.v.length x.e, .slice x.U x.us.length x.cu]] w (DoPost M Tr w p b n c es x) := by
 obtain ⟨Y, hY⟩ : ∃ Y, Y = w.alloc (.cells #[.int .i64 x.kind, .slice x.A x.k.length x.c, .slice x.B x.v.length x.e, .slice x.U x.us.length x.cu] 34) := ⟨_, rfl⟩
 have hbY : Below w.heap.size w Y := by rw [hY]; exact (Below.refl _ _).alloc (Nat.le_refl _) _
 have hyb : Y.heap[w.heap.size]? = some (.cells #[.int .i64 x.kind, .slice x.A x.k.length x.c, .slice x.B x.v.length x.e, .slice x.U x.us.length x.cu] 34 (0, 0)) := by rw [hY]; exact heap_alloc_new w _
 have hpw := tv.lt hp.tr
 have hbw := lt_of_heap hp.hs
 have LC : Hid (∀ v, Keep (fun i => i = b ∨ i = p) Y v → v.cell? ⟨w.heap.size, 0, none⟩ = some (.int .i64 x.kind) ∧ v.cell? ⟨w.heap.size, 1, none⟩ = some (.slice x.A x.k.length x.c) ∧ v.cell? ⟨w.heap.size, 2, none⟩ = some (.slice x.B x.v.length x.e) ∧ v.cell? ⟨w.heap.size, 3, none⟩ = some (.slice x.U x.us.length x.cu)) := fun v hv => by
  have h := hv.heap hyb (fun e => by omega)
  exact ⟨by rw [cell_of_cells h]; rfl, by rw [cell_of_cells h]; rfl, by rw [cell_of_cells h]; rfl, by rw [cell_of_cells h]; rfl⟩
 have HP0 := Lib.hid hp
 have HP := Lib.hid (hp.below nd tv hbY)
 have HBY := Lib.hid hbY
 have HYY := Lib.hid hY
 have HKR : Hid (Keep (fun i => i = b ∨ i = p) Y Y) := Keep.refl _ Y
 have k0 : (x.kind == 0) = false := beq_eq_false_iff_ne.2 (by rw [hk]; decide)
 have k1 : (x.kind == 1) = false := beq_eq_false_iff_ne.2 (by rw [hk]; decide)
 have k2 : (x.kind == 2) = true := beq_iff_eq.2 hk
 have HD : Hid (doO (es.map En.ent) x = es.map En.ent) := by show _ = _; unfold doO; rw [if_neg (by rw [hk]; decide), if_neg (by rw [hk]; decide), if_pos hk, if_neg hl]
 have hr : rightK x.k [] = 2 := by unfold rightK; rw [if_neg hl]
 have HRT := Lib.hid (right13_c x.A none x.c 0 x.k [] Y)
 rw [hr] at HRT
 have HGT := Lib.hid ((tv.delete Y p b n c (es.map En.ent) T x.A x.c x.k HP.out.tr HP.out.hs (by have := HP.out.hc; omega) HP.out.vars HP.out.ms HP.out.im HP.out.asc (by rw [List.length_map]; have := HP.out.len; omega) HP.out.ok.key HP.out.ok.kc (by have := HP.out.few.1; omega)).mono fun e w' h => h.2 hl)
 clear hp hY hbY hyb hpw hbw hk hl hr
 unfold ptr
 go_enter Tryz.func13, Tryz.ntmps13
 go_wp2_with fail
 rw [← HYY.out]
 refine HRT.out.mono ?_
 rintro _ _ ⟨rfl, rfl⟩
 have cy := LC.out Y HKR.out
 go_wp2_with fail
 refine HGT.out.mono ?_
 rintro _ w1 ⟨v, rfl, hW, hI⟩
 have HI := Lib.hid hI
 have HWR := Lib.hid (wrong_c (opB deleteB) 0 2 v w1 hW (by decide) (errVar_ctl HP.out.err hI.keep fun i e => by have e2 : i = b := e; rw [e2]; exact HP.out.hs.ctl))
 clear hW hI cy HRT HGT
 go_wp2_with fail
 refine HWR.out.mono ?_
 rintro _ w2 ⟨rfl, hB2⟩
 have HB2 := Lib.hid hB2
 clear hB2 HWR
 go_wp2_with fail
 go_ret2
 exact do_keep nd tv HP0.out HBY.out HI.out (by omega) HB2.out HD.out
theorem do_del_some {M : World → Int → Tv → Prop} {Tr : World → Nat → Nat → Int → Tv → Prop} (nd : NdV M) (tv : TrV M Tr) (w : World) (p b : Nat) (n : Int) (c : Nat) (A : Option Addr) (cA : Nat) (es : List En) (x : On) (T : Tv) (hp : DoPre M Tr w p b n c A es x T) (hk : x.kind = 2) (hl : x.k.length = 32) (g : En) (hg : getE es x.k = some g) : Calls Tryz.prog 13 #[ptr p, .slice A es.length cA, .agg #[.int .i64 x.kind, .slice x.A x.k.length x.c, .slice x.B x.v.length x.e, .slice x.U x.us.length x.cu]] w (DoPost M Tr w p b n c es x) := by
 obtain ⟨Y, hY⟩ : ∃ Y, Y = w.alloc (.cells #[.int .i64 x.kind, .slice x.A x.k.length x.c, .slice x.B x.v.length x.e, .slice x.U x.us.length x.cu] 34) := ⟨_, rfl⟩
 have hbY : Below w.heap.size w Y := by rw [hY]; exact (Below.refl _ _).alloc (Nat.le_refl _) _
 have hyb : Y.heap[w.heap.size]? = some (.cells #[.int .i64 x.kind, .slice x.A x.k.length x.c, .slice x.B x.v.length x.e, .slice x.U x.us.length x.cu] 34 (0, 0)) := by rw [hY]; exact heap_alloc_new w _
 have hpw := tv.lt hp.tr
 have hbw := lt_of_heap hp.hs
 have LC : Hid (∀ v, Keep (fun i => i = b ∨ i = p) Y v → v.cell? ⟨w.heap.size, 0, none⟩ = some (.int .i64 x.kind) ∧ v.cell? ⟨w.heap.size, 1, none⟩ = some (.slice x.A x.k.length x.c) ∧ v.cell? ⟨w.heap.size, 2, none⟩ = some (.slice x.B x.v.length x.e) ∧ v.cell? ⟨w.heap.size, 3, none⟩ = some (.slice x.U x.us.length x.cu)) := fun v hv => by
  have h := hv.heap hyb (fun e => by omega)
  exact ⟨by rw [cell_of_cells h]; rfl, by rw [cell_of_cells h]; rfl, by rw [cell_of_cells h]; rfl, by rw [cell_of_cells h]; rfl⟩
 have HP0 := Lib.hid hp
 have HP := Lib.hid (hp.below nd tv hbY)
 have HBY := Lib.hid hbY
 have HYY := Lib.hid hY
 have HKR : Hid (Keep (fun i => i = b ∨ i = p) Y Y) := Keep.refl _ Y
 have k0 : (x.kind == 0) = false := beq_eq_false_iff_ne.2 (by rw [hk]; decide)
 have k1 : (x.kind == 1) = false := beq_eq_false_iff_ne.2 (by rw [hk]; decide)
 have k2 : (x.kind == 2) = true := beq_iff_eq.2 hk
 have HD : Hid (doO (es.map En.ent) x = rmK (es.map En.ent) x.k) := by show _ = _; unfold doO; rw [if_neg (by rw [hk]; decide), if_neg (by rw [hk]; decide), if_pos hk, if_pos hl]
 have hr : rightK x.k [] = 0 := by unfold rightK; rw [if_pos hl, if_neg (by decide)]
 have hh : hasK (es.map En.ent) x.k = true := by rw [hasK_getE, hg]; rfl
 have HRT := Lib.hid (right13_c x.A none x.c 0 x.k [] Y)
 rw [hr] at HRT
 have HOF := Lib.hid (of2_c x.A x.c x.k Y HP.out.ok.key hl)
 have HG7 : Hid (∀ y, Below Y.heap.size Y y → Calls Tryz.prog 35 #[.slice A es.length cA, .agg (bA x.k)] y fun e w' => e = .returned (.tuple #[.slice g.A g.v.length g.c, .bool true]) ∧ Below y.heap.size y w') := fun y hy => by
  have := get7_c A cA es x.k y (HP.out.ea.below hy) (by have := HP.out.len; omega) hl
  rw [hg] at this
  exact this
 have HDL : Hid (∀ y, Below Y.heap.size Y y → Calls Tryz.prog 29 #[.pointer (some ⟨p, 0, none⟩), .slice x.A x.k.length x.c] y fun e w' => ∃ T', e = .returned (.tuple #[.bool true, .nilIface]) ∧ Done M Tr y p b n (rmK (es.map En.ent) x.k) T T' (c + 1000) w') := fun y hy => by
  have hpy := HP.out.below nd tv hy
  refine (tv.delete y p b n c (es.map En.ent) T x.A x.c x.k hpy.tr hpy.hs (by have := hpy.hc; omega) hpy.vars hpy.ms hpy.im hpy.asc (by rw [List.length_map]; have := hpy.len; omega) hpy.ok.key hpy.ok.kc (by have := hpy.few.1; omega)).mono ?_
  rintro e w' ⟨h, _⟩
  have := h hl
  rwa [hh] at this
 have HKL : Hid (x.k.length = 32) := hl
 clear hp hY hbY hyb hpw hbw hk hl hg hr hh
 unfold ptr
 go_enter Tryz.func13, Tryz.ntmps13
 go_wp2_with fail
 rw [← HYY.out]
 refine HRT.out.mono ?_
 rintro _ _ ⟨rfl, rfl⟩
 have cy := LC.out Y HKR.out
 go_wp2_with fail
 refine HOF.out.mono ?_
 rintro _ w1 ⟨rfl, hB1⟩
 have HB1 := Lib.hid hB1
 clear hB1 cy HRT HOF
 go_wp2_with fail
 refine (HG7.out w1 HB1.out).mono ?_
 rintro _ w2 ⟨rfl, hB2⟩
 have HB2 := Lib.hid (HB1.out.trans (hB2.mono HB1.out.size))
 have HBY2 := Lib.hid (HBY.out.trans (HB2.out.mono HBY.out.size))
 have HP2 := Lib.hid (HP.out.below nd tv HB2.out)
 have c2 := LC.out w2 (Keep.of_below HB2.out)
 clear hB2 HG7
 go_wp2_with fail
 refine (HDL.out w2 HB2.out).mono ?_
 rintro _ w3 ⟨T1, rfl, hDN⟩
 have HDN := Lib.hid hDN
 have c3 := LC.out w3 ((Keep.of_below HB2.out).trans hDN.keep)
 clear hDN c2 HDL
 have HEX : Hid (EA w3 A es) := HP2.out.ea.ctl HDN.out.keep (HP2.out.ctl tv)
 have HKX : Hid (BA w3 x.A x.k) := HP2.out.ok.key.ctl HDN.out.keep (HP2.out.ctl tv)
 have HOF3 := Lib.hid (of2_c x.A x.c x.k w3 HKX.out HKL.out)
 go_wp2_with fail
 refine HOF3.out.mono ?_
 rintro _ w4 ⟨rfl, hB4⟩
 have HB4 := Lib.hid hB4
 have HR7 := Lib.hid (remove7_c A cA es x.k w4 (HEX.out.below hB4) (by have := HP.out.len; omega) HKL.out)
 clear hB4 c3 HOF3
 go_wp2_with fail
 refine HR7.out.mono ?_
 rintro _ w5 ⟨v5, rfl, hO5, hB5⟩
 obtain ⟨A9, c9, rfl, _, hE9⟩ := hO5.ea fun e he => ((HEX.out.below HB4.out).mem e (List.mem_filter.1 he).1).below hB5
 have HB5 := Lib.hid (HB4.out.trans (hB5.mono HB4.out.size))
 have HE9 := Lib.hid hE9
 have HNE : Hid ((rmE es x.k).map En.ent = rmK (es.map En.ent) x.k ∧ (∀ e ∈ rmE es x.k, e.v.length ≤ 70000) ∧ (rmE es x.k).length ≤ es.length + 20) := ⟨rmE_ent es x.k, fun e he => HP.out.hvl e (List.mem_filter.1 he).1, by have := List.length_filter_le (fun e : En => !decide (e.k = x.k)) es; show (es.filter _).length ≤ _; omega⟩
 obtain ⟨gs, hgs⟩ : ∃ gs, gs = rmE es x.k := ⟨_, rfl⟩
 rw [← hgs] at HE9 HNE ⊢
 clear hB5 hO5 hE9 HR7 hgs
 go_wp2_with fail
 refine (wrong_nil (opB deleteB) 0 w5).mono ?_
 rintro _ _ ⟨rfl, rfl⟩
 go_wp2_with fail
 go_ret2
 exact do_new nd tv HBY2.out (by rw [HD.out]; exact HDN.out) (by omega) HB5.out HE9.out (by rw [HD.out]; exact HNE.out.1) HNE.out.2.1 HNE.out.2.2
theorem do_del_none {M : World → Int → Tv → Prop} {Tr : World → Nat → Nat → Int → Tv → Prop} (nd : NdV M) (tv : TrV M Tr) (w : World) (p b : Nat) (n : Int) (c : Nat) (A : Option Addr) (cA : Nat) (es : List En) (x : On) (T : Tv) (hp : DoPre M Tr w p b n c A es x T) (hk : x.kind = 2) (hl : x.k.length = 32) (hg : getE es x.k = none) : Calls Tryz.prog 13 #[ptr p, .slice A es.length cA, .agg #[.int .i64 x.kind, .slice x.A x.k.length x.c, .slice x.B x.v.length x.e, .slice x.U x.us.length x.cu]] w (DoPost M Tr w p b n c es x) := by
 obtain ⟨Y, hY⟩ : ∃ Y, Y = w.alloc (.cells #[.int .i64 x.kind, .slice x.A x.k.length x.c, .slice x.B x.v.length x.e, .slice x.U x.us.length x.cu] 34) := ⟨_, rfl⟩
 have hbY : Below w.heap.size w Y := by rw [hY]; exact (Below.refl _ _).alloc (Nat.le_refl _) _
 have hyb : Y.heap[w.heap.size]? = some (.cells #[.int .i64 x.kind, .slice x.A x.k.length x.c, .slice x.B x.v.length x.e, .slice x.U x.us.length x.cu] 34 (0, 0)) := by rw [hY]; exact heap_alloc_new w _
 have hpw := tv.lt hp.tr
 have hbw := lt_of_heap hp.hs
 have LC : Hid (∀ v, Keep (fun i => i = b ∨ i = p) Y v → v.cell? ⟨w.heap.size, 0, none⟩ = some (.int .i64 x.kind) ∧ v.cell? ⟨w.heap.size, 1, none⟩ = some (.slice x.A x.k.length x.c) ∧ v.cell? ⟨w.heap.size, 2, none⟩ = some (.slice x.B x.v.length x.e) ∧ v.cell? ⟨w.heap.size, 3, none⟩ = some (.slice x.U x.us.length x.cu)) := fun v hv => by
  have h := hv.heap hyb (fun e => by omega)
  exact ⟨by rw [cell_of_cells h]; rfl, by rw [cell_of_cells h]; rfl, by rw [cell_of_cells h]; rfl, by rw [cell_of_cells h]; rfl⟩
 have HP0 := Lib.hid hp
 have HP := Lib.hid (hp.below nd tv hbY)
 have HBY := Lib.hid hbY
 have HYY := Lib.hid hY
 have HKR : Hid (Keep (fun i => i = b ∨ i = p) Y Y) := Keep.refl _ Y
 have k0 : (x.kind == 0) = false := beq_eq_false_iff_ne.2 (by rw [hk]; decide)
 have k1 : (x.kind == 1) = false := beq_eq_false_iff_ne.2 (by rw [hk]; decide)
 have k2 : (x.kind == 2) = true := beq_iff_eq.2 hk
 have HD : Hid (doO (es.map En.ent) x = rmK (es.map En.ent) x.k) := by show _ = _; unfold doO; rw [if_neg (by rw [hk]; decide), if_neg (by rw [hk]; decide), if_pos hk, if_pos hl]
 have hr : rightK x.k [] = 0 := by unfold rightK; rw [if_pos hl, if_neg (by decide)]
 have hh : hasK (es.map En.ent) x.k = false := by rw [hasK_getE, hg]; rfl
 have HRT := Lib.hid (right13_c x.A none x.c 0 x.k [] Y)
 rw [hr] at HRT
 have HOF := Lib.hid (of2_c x.A x.c x.k Y HP.out.ok.key hl)
 have HG7 : Hid (∀ y, Below Y.heap.size Y y → Calls Tryz.prog 35 #[.slice A es.length cA, .agg (bA x.k)] y fun e w' => e = .returned (.tuple #[.slice none 0 0, .bool false]) ∧ Below y.heap.size y w') := fun y hy => by
  have := get7_c A cA es x.k y (HP.out.ea.below hy) (by have := HP.out.len; omega) hl
  rw [hg] at this
  exact this
 have HDL : Hid (∀ y, Below Y.heap.size Y y → Calls Tryz.prog 29 #[.pointer (some ⟨p, 0, none⟩), .slice x.A x.k.length x.c] y fun e w' => ∃ T', e = .returned (.tuple #[.bool false, .nilIface]) ∧ Done M Tr y p b n (rmK (es.map En.ent) x.k) T T' (c + 1000) w') := fun y hy => by
  have hpy := HP.out.below nd tv hy
  refine (tv.delete y p b n c (es.map En.ent) T x.A x.c x.k hpy.tr hpy.hs (by have := hpy.hc; omega) hpy.vars hpy.ms hpy.im hpy.asc (by rw [List.length_map]; have := hpy.len; omega) hpy.ok.key hpy.ok.kc (by have := hpy.few.1; omega)).mono ?_
  rintro e w' ⟨h, _⟩
  have := h hl
  rwa [hh] at this
 have HKL : Hid (x.k.length = 32) := hl
 have HRN : Hid (rmK (es.map En.ent) x.k = es.map En.ent) := rmK_no hh
 clear hp hY hbY hyb hpw hbw hk hl hg hr hh
 unfold ptr
 go_enter Tryz.func13, Tryz.ntmps13
 go_wp2_with fail
 rw [← HYY.out]
 refine HRT.out.mono ?_
 rintro _ _ ⟨rfl, rfl⟩
 have cy := LC.out Y HKR.out
 go_wp2_with fail
 refine HOF.out.mono ?_
 rintro _ w1 ⟨rfl, hB1⟩
 have HB1 := Lib.hid hB1
 clear hB1 cy HRT HOF
 go_wp2_with fail
 refine (HG7.out w1 HB1.out).mono ?_
 rintro _ w2 ⟨rfl, hB2⟩
 have HB2 := Lib.hid (HB1.out.trans (hB2.mono HB1.out.size))
 have HBY2 := Lib.hid (HBY.out.trans (HB2.out.mono HBY.out.size))
 have HP2 := Lib.hid (HP.out.below nd tv HB2.out)
 have c2 := LC.out w2 (Keep.of_below HB2.out)
 clear hB2 HG7
 go_wp2_with fail
 refine (HDL.out w2 HB2.out).mono ?_
 rintro _ w3 ⟨T1, rfl, hDN⟩
 have HDN := Lib.hid hDN
 have c3 := LC.out w3 ((Keep.of_below HB2.out).trans hDN.keep)
 clear hDN c2 HDL
 have HEX : Hid (EA w3 A es) := HP2.out.ea.ctl HDN.out.keep (HP2.out.ctl tv)
 go_wp2_with fail
 refine (wrong_nil (opB deleteB) 0 w3).mono ?_
 rintro _ _ ⟨rfl, rfl⟩
 go_wp2_with fail
 go_ret2
 exact do_new nd tv HBY2.out (by rw [HD.out]; exact HDN.out) (by omega) (Below.refl _ _) HEX.out (by rw [HD.out, HRN.out]) HP.out.hvl (by omega)
theorem do_app_no {M : World → Int → Tv → Prop} {Tr : World → Nat → Nat → Int → Tv → Prop} (nd : NdV M) (tv : TrV M Tr) (w : World) (p b : Nat) (n : Int) (c : Nat) (A : Option Addr) (cA : Nat) (es : List En) (x : On) (T : Tv) (hp : DoPre M Tr w p b n c A es x T) (hk : x.kind ≠ 0 ∧ x.kind ≠ 1 ∧ x.kind ≠ 2) (h0 : (checkU (x.us.map Un.up)).2 ≠ 0) : Calls Tryz.prog 13 #[ptr p, .slice A es.length cA, .agg #[.int .i64 x.kind, .slice x.A x.k.length x.c, .slice x.B x.v.length x.e, .slice x.U x.us.length x.cu]] w (DoPost M Tr w p b n c es x) := by
 obtain ⟨Y, hY⟩ : ∃ Y, Y = w.alloc (.cells #[.int .i64 x.kind, .slice x.A x.k.length x.c, .slice x.B x.v.length x.e, .slice x.U x.us.length x.cu] 34) := ⟨_, rfl⟩
 have hbY : Below w.heap.size w Y := by rw [hY]; exact (Below.refl _ _).alloc (Nat.le_refl _) _
 have hyb : Y.heap[w.heap.size]? = some (.cells #[.int .i64 x.kind, .slice x.A x.k.length x.c, .slice x.B x.v.length x.e, .slice x.U x.us.length x.cu] 34 (0, 0)) := by rw [hY]; exact heap_alloc_new w _
 have hpw := tv.lt hp.tr
 have hbw := lt_of_heap hp.hs
 have LC : Hid (∀ v, Keep (fun i => i = b ∨ i = p) Y v → v.cell? ⟨w.heap.size, 0, none⟩ = some (.int .i64 x.kind) ∧ v.cell? ⟨w.heap.size, 1, none⟩ = some (.slice x.A x.k.length x.c) ∧ v.cell? ⟨w.heap.size, 2, none⟩ = some (.slice x.B x.v.length x.e) ∧ v.cell? ⟨w.heap.size, 3, none⟩ = some (.slice x.U x.us.length x.cu)) := fun v hv => by
  have h := hv.heap hyb (fun e => by omega)
  exact ⟨by rw [cell_of_cells h]; rfl, by rw [cell_of_cells h]; rfl, by rw [cell_of_cells h]; rfl, by rw [cell_of_cells h]; rfl⟩
 have HP0 := Lib.hid hp
 have HP := Lib.hid (hp.below nd tv hbY)
 have HBY := Lib.hid hbY
 have HYY := Lib.hid hY
 have HKR : Hid (Keep (fun i => i = b ∨ i = p) Y Y) := Keep.refl _ Y
 have k0 : (x.kind == 0) = false := beq_eq_false_iff_ne.2 hk.1
 have k1 : (x.kind == 1) = false := beq_eq_false_iff_ne.2 hk.2.1
 have k2 : (x.kind == 2) = false := beq_eq_false_iff_ne.2 hk.2.2
 have HD : Hid (doO (es.map En.ent) x = es.map En.ent) := by show _ = _; unfold doO; rw [if_neg hk.1, if_neg hk.2.1, if_neg hk.2.2, if_neg h0]
 have HCK : Hid (Calls Tryz.prog 38 #[.slice x.U x.us.length x.cu] Y fun e w' => e = .returned (.tuple #[.int .i64 ((checkU (x.us.map Un.up)).1 : Int), .int .i64 (checkU (x.us.map Un.up)).2]) ∧ Below Y.heap.size Y w') := check13_c x.U x.cu x.us Y HP.out.ok.ups (by have := HP.out.few.2.2.1; omega) fun u hu => by have := (HP.out.few.2.2.2 u hu).1; omega
 obtain ⟨I, hI⟩ : ∃ I, I = (checkU (x.us.map Un.up)).1 := ⟨_, rfl⟩
 obtain ⟨E, hE⟩ : ∃ E, E = (checkU (x.us.map Un.up)).2 := ⟨_, rfl⟩
 have HAP : Hid (∀ y, Below Y.heap.size Y y → Calls Tryz.prog 31 #[.pointer (some ⟨p, 0, none⟩), .slice x.U x.us.length x.cu] y fun e w' => ∃ v, e = .returned v ∧ Wrong w' (opB applyB) (I : Int) E v ∧ Idle y b n (c + 90000) w') := fun y hy => by
  have HP := Lib.hid (HP.out.below nd tv hy)
  rw [hI, hE]
  exact (tv.apply y p b n c (es.map En.ent) T x.U x.cu x.us HP.out.tr HP.out.hs (by have := HP.out.hc; omega) HP.out.vars HP.out.ms HP.out.im HP.out.asc (by rw [List.length_map]; have := HP.out.len; omega) HP.out.ok.ups HP.out.ok.uc HP.out.few.2.2.1 (fun u hu => ⟨by have := (HP.out.few.2.2.2 u hu).1; omega, (HP.out.few.2.2.2 u hu).2⟩)).mono fun e w' h => h.2 h0
 rw [← hI, ← hE] at HCK
 rw [← hE] at h0
 have HE : Hid (E ≠ 0) := h0
 have d1 : (E != 0) = true := by simp [h0]
 clear hp hY hbY hyb hpw hbw hk h0 hI hE
 unfold ptr
 go_enter Tryz.func13, Tryz.ntmps13
 go_wp2_with fail
 rw [← HYY.out]
 refine HCK.out.mono ?_
 rintro _ w1 ⟨rfl, hB1⟩
 have HB1 := Lib.hid hB1
 have c1 := LC.out w1 (Keep.of_below hB1)
 clear hB1 HCK
 go_wp2_with fail
 refine (HAP.out w1 HB1.out).mono ?_
 rintro _ w2 ⟨v, rfl, hW, hI⟩
 have HI := Lib.hid hI
 have HBY1 := Lib.hid (HBY.out.trans (HB1.out.mono HBY.out.size))
 have HP1 := Lib.hid (HP.out.below nd tv HB1.out)
 have HWR := Lib.hid (wrong_c (opB applyB) (I : Int) E v w2 hW HE.out (errVar_ctl HP1.out.err hI.keep fun i e => by have e2 : i = b := e; rw [e2]; exact HP1.out.hs.ctl))
 clear hW hI HAP c1
 go_wp2_with fail
 refine HWR.out.mono ?_
 rintro _ w3 ⟨rfl, hB3⟩
 have HB3 := Lib.hid hB3
 clear hB3 HWR
 go_wp2_with fail
 go_ret2
 exact do_keep nd tv HP0.out HBY1.out HI.out (by omega) HB3.out HD.out
theorem do_app_yes {M : World → Int → Tv → Prop} {Tr : World → Nat → Nat → Int → Tv → Prop} (nd : NdV M) (tv : TrV M Tr) (w : World) (p b : Nat) (n : Int) (c : Nat) (A : Option Addr) (cA : Nat) (es : List En) (x : On) (T : Tv) (hp : DoPre M Tr w p b n c A es x T) (hk : x.kind ≠ 0 ∧ x.kind ≠ 1 ∧ x.kind ≠ 2) (h0 : (checkU (x.us.map Un.up)).2 = 0) : Calls Tryz.prog 13 #[ptr p, .slice A es.length cA, .agg #[.int .i64 x.kind, .slice x.A x.k.length x.c, .slice x.B x.v.length x.e, .slice x.U x.us.length x.cu]] w (DoPost M Tr w p b n c es x) := by
 obtain ⟨Y, hY⟩ : ∃ Y, Y = w.alloc (.cells #[.int .i64 x.kind, .slice x.A x.k.length x.c, .slice x.B x.v.length x.e, .slice x.U x.us.length x.cu] 34) := ⟨_, rfl⟩
 have hbY : Below w.heap.size w Y := by rw [hY]; exact (Below.refl _ _).alloc (Nat.le_refl _) _
 have hyb : Y.heap[w.heap.size]? = some (.cells #[.int .i64 x.kind, .slice x.A x.k.length x.c, .slice x.B x.v.length x.e, .slice x.U x.us.length x.cu] 34 (0, 0)) := by rw [hY]; exact heap_alloc_new w _
 have hpw := tv.lt hp.tr
 have hbw := lt_of_heap hp.hs
 have LC : Hid (∀ v, Keep (fun i => i = b ∨ i = p) Y v → v.cell? ⟨w.heap.size, 0, none⟩ = some (.int .i64 x.kind) ∧ v.cell? ⟨w.heap.size, 1, none⟩ = some (.slice x.A x.k.length x.c) ∧ v.cell? ⟨w.heap.size, 2, none⟩ = some (.slice x.B x.v.length x.e) ∧ v.cell? ⟨w.heap.size, 3, none⟩ = some (.slice x.U x.us.length x.cu)) := fun v hv => by
  have h := hv.heap hyb (fun e => by omega)
  exact ⟨by rw [cell_of_cells h]; rfl, by rw [cell_of_cells h]; rfl, by rw [cell_of_cells h]; rfl, by rw [cell_of_cells h]; rfl⟩
 have HP0 := Lib.hid hp
 have HP := Lib.hid (hp.below nd tv hbY)
 have HBY := Lib.hid hbY
 have HYY := Lib.hid hY
 have HKR : Hid (Keep (fun i => i = b ∨ i = p) Y Y) := Keep.refl _ Y
 have k0 : (x.kind == 0) = false := beq_eq_false_iff_ne.2 hk.1
 have k1 : (x.kind == 1) = false := beq_eq_false_iff_ne.2 hk.2.1
 have k2 : (x.kind == 2) = false := beq_eq_false_iff_ne.2 hk.2.2
 have HD : Hid (doO (es.map En.ent) x = appU (es.map En.ent) (x.us.map Un.up)) := by show _ = _; unfold doO; rw [if_neg hk.1, if_neg hk.2.1, if_neg hk.2.2, if_pos h0]
 have HCK : Hid (Calls Tryz.prog 38 #[.slice x.U x.us.length x.cu] Y fun e w' => e = .returned (.tuple #[.int .i64 ((checkU (x.us.map Un.up)).1 : Int), .int .i64 (checkU (x.us.map Un.up)).2]) ∧ Below Y.heap.size Y w') := check13_c x.U x.cu x.us Y HP.out.ok.ups (by have := HP.out.few.2.2.1; omega) fun u hu => by have := (HP.out.few.2.2.2 u hu).1; omega
 obtain ⟨I, hI⟩ : ∃ I, I = (checkU (x.us.map Un.up)).1 := ⟨_, rfl⟩
 have HAP : Hid (∀ y, Below Y.heap.size Y y → Calls Tryz.prog 31 #[.pointer (some ⟨p, 0, none⟩), .slice x.U x.us.length x.cu] y fun e w' => ∃ T', e = .returned .nilIface ∧ Done M Tr y p b n (appU (es.map En.ent) (x.us.map Un.up)) T T' (c + 90000) w') := fun y hy => by
  have HP := Lib.hid (HP.out.below nd tv hy)
  exact (tv.apply y p b n c (es.map En.ent) T x.U x.cu x.us HP.out.tr HP.out.hs (by have := HP.out.hc; omega) HP.out.vars HP.out.ms HP.out.im HP.out.asc (by rw [List.length_map]; have := HP.out.len; omega) HP.out.ok.ups HP.out.ok.uc HP.out.few.2.2.1 (fun u hu => ⟨by have := (HP.out.few.2.2.2 u hu).1; omega, (HP.out.few.2.2.2 u hu).2⟩)).mono fun e w' h => h.1 h0
 rw [← hI, h0] at HCK
 have HR : Hid (∀ u ∈ x.us, u.k.length = 32 ∧ u.v.length ≤ 70000) := fun u hu => ⟨(rightK_zero ((checkU_right h0).1 u.up (List.mem_map.2 ⟨u, hu, rfl⟩))).1, (hp.few.2.2.2 u hu).2⟩
 clear hp hY hbY hyb hpw hbw hk h0 hI
 unfold ptr
 go_enter Tryz.func13, Tryz.ntmps13
 go_wp2_with fail
 rw [← HYY.out]
 refine HCK.out.mono ?_
 rintro _ w1 ⟨rfl, hB1⟩
 have HB1 := Lib.hid hB1
 have c1 := LC.out w1 (Keep.of_below hB1)
 clear hB1 HCK
 go_wp2_with fail
 refine (HAP.out w1 HB1.out).mono ?_
 rintro _ w2 ⟨T1, rfl, hDN⟩
 have HDN := Lib.hid hDN
 have HBY1 := Lib.hid (HBY.out.trans (HB1.out.mono HBY.out.size))
 have HP1 := Lib.hid (HP.out.below nd tv HB1.out)
 have c2 := LC.out w2 ((Keep.of_below HB1.out).trans hDN.keep)
 clear hDN HAP c1
 go_wp2_with fail
 refine (wrong_nil (opB applyB) (I : Int) w2).mono ?_
 rintro _ _ ⟨rfl, rfl⟩
 have HA7 := Lib.hid (apply13_c A cA es x.U x.cu x.us w2 (HP1.out.ea.ctl HDN.out.keep (HP1.out.ctl tv)) (HP1.out.ok.ups.ctl HDN.out.keep (HP1.out.ctl tv)) (by have := HP.out.len; omega) (by have := HP.out.few.2.2.1; omega) HP.out.hvl HR.out)
 go_wp2_with fail
 refine HA7.out.mono ?_
 rintro _ w3 ⟨A9, c9, es9, rfl, hE9, he9, hv9, hl9, hB3⟩
 have HE9 := Lib.hid hE9
 have HM9 : Hid (es9.map En.ent = appU (es.map En.ent) (x.us.map Un.up)) := by show _ = _; rw [appU_chg]; exact he9
 have HV9 := Lib.hid hv9
 have HL9 : Hid (es9.length ≤ es.length + 20) := by show _ ≤ _; have := HP.out.few.2.2.1; omega
 have HB3 := Lib.hid hB3
 clear hE9 he9 hv9 hl9 hB3 HA7 c2
 go_wp2_with fail
 go_ret2
 exact do_new nd tv HBY1.out (by rw [HD.out]; exact HDN.out) (by omega) HB3.out HE9.out (by rw [HD.out]; exact HM9.out) HV9.out HL9.out
theorem do_c {M : World → Int → Tv → Prop} {Tr : World → Nat → Nat → Int → Tv → Prop} (nd : NdV M) (tv : TrV M Tr) (w : World) (p b : Nat) (n : Int) (c : Nat) (A : Option Addr) (cA : Nat) (es : List En) (x : On) (T : Tv) (hp : DoPre M Tr w p b n c A es x T) : Calls Tryz.prog 13 #[ptr p, .slice A es.length cA, .agg #[.int .i64 x.kind, .slice x.A x.k.length x.c, .slice x.B x.v.length x.e, .slice x.U x.us.length x.cu]] w (DoPost M Tr w p b n c es x) := by
 by_cases k0 : x.kind = 0
 ·by_cases hr : rightK x.k x.v = 0
  ·exact do_put_yes nd tv w p b n c A cA es x T hp k0 hr
  ·exact do_put_no nd tv w p b n c A cA es x T hp k0 hr
 ·by_cases k1 : x.kind = 1
  ·by_cases hl : x.k.length = 32
   ·cases hg : getE es x.k with
    | none => exact do_get_none nd tv w p b n c A cA es x T hp k1 hl hg
    | some g => exact do_get_some nd tv w p b n c A cA es x T hp k1 hl g hg
   ·exact do_get_no nd tv w p b n c A cA es x T hp k1 hl
  ·by_cases k2 : x.kind = 2
   ·by_cases hl : x.k.length = 32
    ·cases hg : getE es x.k with
     | none => exact do_del_none nd tv w p b n c A cA es x T hp k2 hl hg
     | some g => exact do_del_some nd tv w p b n c A cA es x T hp k2 hl g hg
    ·exact do_del_no nd tv w p b n c A cA es x T hp k2 hl
   ·by_cases h0 : (checkU (x.us.map Un.up)).2 = 0
    ·exact do_app_yes nd tv w p b n c A cA es x T hp ⟨k0, k1, k2⟩ h0
    ·exact do_app_no nd tv w p b n c A cA es x T hp ⟨k0, k1, k2⟩ h0
end
end Go.Proofs.YtkejfdgmdjfdoaaGreatDoor
