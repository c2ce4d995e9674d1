/- The walk of NodeLeaves over contracts: two loops that change bytes of the call's own; a region that draws its order. -/
import Derived.Test.YtdoanibgcogejaaDoorM7
import Derived.Test.YtdoanibgcogejaaDoorLd
namespace Go.Proofs.YtdoanibgcogejaaDoor
open Go.RowKit

/-- An own row of bytes that is not empty: where it lies, a byte of it, a byte stored. -/
theorem OwnB.at {w : World} {B : Nat} {A : Option Addr} {c : Nat} {l : List UInt8} (h : OwnB w B (.slice A l.length c) l) (h0 : 0 < l.length) :
    ∃ g, A = some ⟨g, 0, none⟩ ∧ B ≤ g ∧ g < w.heap.size ∧ (∀ j, w.frozen? ⟨g, j, none⟩ = false) ∧ (∀ j x, l[j]? = some x → w.cell? ⟨g, j, none⟩ = some (bv x)) ∧
      ∀ j y, j < l.length → OwnB (w.setCell ⟨g, j, none⟩ (bv y)) B (.slice A l.length c) (l.set j y) := by
  obtain ⟨e0, ⟨_, h⟩ | ⟨g, cap, cur, e, hg, hh, hn, hc, hs, ht⟩⟩ := h
  · omega
  cases e
  refine ⟨g, rfl, hg, lt_of_heap hh, fun j => frozen_of_row w _ _ _ _ hh, fun j x hx => ?_, fun j y hj => ?_⟩
  · rw [cell_of_cells hh, ← Array.getElem?_toList]
    have hlt := (List.getElem?_eq_some_iff.1 hx).1
    have : (cur.toList.take (l.length * 1))[j]? = some (bv x) := by rw [ht, List.getElem?_map, hx]; rfl
    rwa [List.getElem?_take, if_pos (by omega)] at this
  · refine ⟨by simp, .inr ⟨g, c, cur.setIfInBounds j (bv y), by rw [List.length_set], hg, set_row hh, by rw [List.length_set]; exact hn, hc, by rw [Array.size_setIfInBounds]; exact hs, ?_⟩⟩
    rw [List.length_set, Array.toList_setIfInBounds, List.take_set, ht, List.map_set]
theorem incr (y : UInt8) : ∃ z : UInt8, IntKind.u8.wrap ((y.toNat : Int) + 1) = (z.toNat : Int) := by
  refine ⟨y + 1, ?_⟩
  rw [wrap_u8]
  have h := y.toNat_lt
  rw [UInt8.toNat_add]
  show ((y.toNat : Int) + 1) % 256 = (((y.toNat + 1) % 256 : Nat) : Int)
  omega
set_option maxHeartbeats 16000000 in
set_option maxRecDepth 100000 in
theorem leaves_in {M : World → Int → Tv → Prop} (nd : NdV M) (ha : Alive7) (n : Int) (x : En) (W : World) (hX : EnOk W x) (hxl : x.v.length ≤ 1000) (hvx : Vars W) (h0 : 0 ≤ n) (h1 : n ≤ 256) :
    Calls Tryd.prog 4 #[.int .i64 n, .agg (enC x).toArray] W (Aye W) := by
  have HR : Hid (∀ w, Calls Tryd.prog 9 #[.int .i64 n] w fun e w' => e = .returned (.bool true) ∧ w = w') := fun w => by
    have := right5_c n w
    rwa [decide_eq_true ⟨h0, h1⟩] at this
  obtain ⟨X, hXX⟩ : ∃ X, X = W.alloc (.cells (enC x).toArray 39) := ⟨_, rfl⟩
  have hb0 : Below W.heap.size W X := by rw [hXX]; exact (Below.refl _ _).alloc (Nat.le_refl _) _
  have hr0 : X.rangeAt W.heap.size 0 (enC x) := by rw [hXX]; exact ent_made W x _
  have HXX := Lib.hid hXX
  have HB0 := Lib.hid hb0
  have HXO := Lib.hid (hX.below hb0)
  have HR0 := Lib.hid hr0
  have HKL := Lib.hid hX.key
  have LV : Hid (∀ w', Below X.heap.size X w' → w'.cell? ⟨W.heap.size, 32, none⟩ = some (.slice x.A x.v.length x.c)) := fun w' h => by
    have := range_val (range_below hr0 h) hX.key
    rwa [Nat.zero_add] at this
  have LK : Hid (∀ w', Below X.heap.size X w' → ldA 36 w' (.pointer (some ⟨W.heap.size, 0, none⟩)) = .ok (.value (.agg (bA x.k))) w') := fun w' h => range_key (range_below hr0 h) hX.key
  have dx : decide (1000 < x.v.length) = false := decide_eq_false (by omega)
  have dx2 : decide (1000 < (x.v.length : Int)) = false := decide_eq_false (by omega)
  have HAL := Lib.hid ha
  have HVX := Lib.hid (hvx.below hb0)
  have HH := Lib.hid (hash_in n X h0 h1)
  clear hvx hX hXX hb0 hr0 ha
  go_enter Tryd.func4, Tryd.ntmps4
  go_wp2_with fail
  rw [← HXX.out]
  clear HXX
  refine HH.out.mono ?_
  rintro _ w1 ⟨b, rfl, hb, hH, hB⟩
  have HS1 : Hid (St M X b n 0 [] w1) := ⟨hB, hb, hH, HVX.out.below hB, fun T hT => by simp at hT⟩
  clear hB hH hb HH
  go_wp2_with fail
  refine (HR.out w1).mono ?_
  rintro _ _ ⟨rfl, rfl⟩
  have lv := LV.out w1 HS1.out.bel
  have hO0 : OwnB (w1.alloc (.cells #[] 5)) w1.heap.size (.slice (some ⟨w1.heap.size, 0, none⟩) 0 0) [] := World.ownsRow_made w1 #[] 0 (Nat.le_refl _) (by unfold maxLen; omega) rfl
  have hB0 : Below w1.heap.size w1 (w1.alloc (.cells #[] 5)) := (Below.refl _ _).alloc (Nat.le_refl _) _
  have HXV := Lib.hid ((HXO.out.below HS1.out.bel).below hB0)
  have lv2 : (w1.alloc (.cells #[] 5)).cell? ⟨W.heap.size, 32, none⟩ = some (.slice x.A x.v.length x.c) := LV.out _ (HS1.out.bel.trans (hB0.mono HS1.out.bel.size))
  have HO0 := Lib.hid hO0
  have HBO := Lib.hid hB0
  clear hO0 hB0
  go_wp2_with (at_builtin; refine wpList_catB0 rfl _ _ rfl w1.heap.size w1.heap.size 0 [] rfl (Nat.le_refl _) HO0.out x.A x.c x.v rfl HXV.out.val (by simp; omega) (by simp) ?_; intro v2 w2 hO2 hB2; rw [List.nil_append] at hO2; have HO2 := Lib.hid hO2; have HB2 := Lib.hid (HBO.out.trans hB2); clear hO2 hB2; clear lv lv2; have lk := LK.out w2 (HS1.out.bel.trans (HB2.out.mono HS1.out.bel.size)))
  obtain ⟨Ao, co, rfl, hco, hBA⟩ := HO2.out.any
  have HS2 := Lib.hid (HS1.out.below nd HB2.out)
  have hok : EnOk w2 ⟨x.k, Ao, x.v, co⟩ := ⟨HKL.out, hco, hBA⟩
  have be := bldEntry ⟨x.k, Ao, x.v, co⟩ HKL.out w2
  have HC := Lib.hid (nd.leaf w2 b n 0 _ HS2.out.hs (by decide) HS2.out.vars hok hxl)
  clear hok hco hBA
  go_wp2_with fail
  refine HC.out.mono ?_
  rintro _ w3 ⟨va, c3, rfl, hM3, hc3, hH3, hK3, hst⟩
  have HS3 := Lib.hid (HS2.out.keep nd hK3 hH3)
  have HST := Lib.hid hst
  have HK3 := Lib.hid hK3
  have HBX2 := Lib.hid HS2.out.bel
  obtain ⟨aa, haa⟩ : ∃ a, va = .pointer (some a) := by
    rcases nd.addr hM3 with h | h
    · cases h
    · exact h
  subst haa
  have HO3 : Hid (OwnB w3 w1.heap.size (.slice Ao x.v.length co) x.v) := by
    rcases Nat.eq_zero_or_pos x.v.length with hz | hz
    · show OwnB _ _ _ _
      have hO := HO2.out
      obtain ⟨e0, ⟨h1, h2⟩ | ⟨g, cap, cur, e, hg, hh, hr⟩⟩ := hO
      · exact ⟨e0, .inl ⟨h1, h2⟩⟩
      · refine ⟨e0, .inr ⟨g, cap, cur, e, hg, hK3.heap hh ?_, hr⟩⟩
        have hh2 := HS2.out.hs
        intro e
        have e2 : g = b := e
        subst e2
        rw [hh2] at hh
        cases hh
    · obtain ⟨e0, ⟨h1, h2⟩ | ⟨g, cap, cur, e, hg, hh, hr⟩⟩ := HO2.out
      · omega
      · refine ⟨e0, .inr ⟨g, cap, cur, e, hg, hK3.heap hh ?_, hr⟩⟩
        have hh2 := HS2.out.hs
        intro e
        have e2 : g = b := e
        subst e2
        rw [hh2] at hh
        cases hh
  have HGA : Hid (∀ g, Ao = some ⟨g, 0, none⟩ → 0 < x.v.length → w1.heap.size ≤ g ∧ g < w2.heap.size) := fun g hg h0 => by
    obtain ⟨g', e, h1, h2, _⟩ := HO2.out.at h0
    rw [hg] at e
    cases e
    exact ⟨h1, h2⟩
  clear hM3 hc3 hH3 hK3 hst HC HS2 be lk HO2 HO0 HXV HBO
  go_wp2_with fail
  go_loopg [8, 40] x.v.length (fun gg _ i wr => ∃ (k : Nat) (l' : List UInt8), i = .int .i64 k ∧ k ≤ x.v.length ∧ x.v.length - k = gg ∧ l'.length = x.v.length ∧ OwnB wr w1.heap.size (.slice Ao x.v.length co) l' ∧ Keep (fun i => w1.heap.size ≤ i ∧ i < w2.heap.size) w3 wr)
  case atStart => exact ⟨0, x.v, rfl, by omega, by omega, rfl, HO3.out, Keep.refl _ _⟩
  case round =>
    obtain ⟨k, l', rfl, hkl, rfl, hl', hO, hK⟩ := hrel
    have HOr := Lib.hid hO
    have HKr := Lib.hid hK
    have HL' := Lib.hid hl'
    clear hO hK hl'
    by_cases hlt : k < x.v.length
    · obtain ⟨y, hy⟩ : ∃ y, l'[k]? = some y := ⟨_, List.getElem?_eq_getElem (by have := HL'.out; omega)⟩
      have hO1 : OwnB wr w1.heap.size (.slice Ao l'.length co) l' := by rw [HL'.out]; exact HOr.out
      obtain ⟨g, rfl, hg, hgl, hfz, hcell, hset⟩ := hO1.at (by have := HL'.out; omega)
      have hc := hcell k y hy
      have hf := hfz k
      obtain ⟨z, hz⟩ := incr y
      have HSET : Hid (OwnB (wr.setCell ⟨g, k, none⟩ (bv z)) w1.heap.size (.slice (some ⟨g, 0, none⟩) x.v.length co) (l'.set k z)) := by
        have := hset k z (by have := HL'.out; omega)
        rw [HL'.out] at this
        exact this
      have HGL := Lib.hid (HGA.out g rfl (by omega))
      have dk : decide (k < x.v.length) = true := decide_eq_true hlt
      have p0 : (0 : Int) ≤ (k : Int) := by omega
      have p1 : (k : Int) < (x.v.length : Int) := by omega
      have hc2 : wr.cell? ⟨g, k, none⟩ = some (.int .u8 (y.toNat : Int)) := hc
      clear hO1 hcell hset hfz hy hg hgl hc
      go_wp2_with fail
      go_roundg (x.v.length - (k + 1))
      case measure => omega
      case rel =>
        refine ⟨k + 1, l'.set k z, by go_num, by omega, rfl, by rw [List.length_set]; exact HL'.out, HSET.out, HKr.out.step (Keep.cell _ _ _) fun i hi => .inl (by subst hi; exact HGL.out)⟩
    · obtain rfl : k = x.v.length := by omega
      have dk : decide (x.v.length < x.v.length) = false := decide_eq_false (by omega)
      have HM := Lib.hid (HST.out wr (HKr.out.mono fun i hi => hi.2))
      have HBl : Hid (Below X.heap.size X wr) := HS3.out.bel.trans (HKr.out.below (B := X.heap.size) (by have := HS3.out.bel.size; exact this) fun i hi => Nat.le_trans HS1.out.bel.size hi.1)
      have HVl : Hid (Vars wr) := HVX.out.below HBl.out
      clear HST HO3 HK3 HOr HKr HL'
      obtain ⟨wl, rfl⟩ : ∃ wl : World, wl = wr := ⟨_, rfl⟩
      have HC := Lib.hid (nd.entry wl n _ HM.out)
      go_wp2_with fail
      refine HC.out.mono ?_
      rintro _ w5 ⟨A5, c5, rfl, hN5, hB5⟩
      rw [show entT (Tv.leaf (.pointer (some aa)) (En.ent ⟨x.k, Ao, x.v, co⟩)).tr = ⟨x.k, x.v⟩ from rfl] at hN5 ⊢
      have hN : NewB w5 wl.heap.size A5 c5 x.v := hN5
      clear hN5
      have st := stE_new (w := w5) (e := ⟨x.k, A5, x.v, c5⟩) (z := ⟨z26, none, [], 0⟩) HKL.out rfl
      obtain ⟨Y, hY⟩ : ∃ Y, Y = w5.alloc (.cells (enC ⟨x.k, A5, x.v, c5⟩).toArray 39) := ⟨_, rfl⟩
      have hbY : Below w5.heap.size w5 Y := by rw [hY]; exact (Below.refl _ _).alloc (Nat.le_refl _) _
      have hrY : Y.rangeAt w5.heap.size 0 (enC ⟨x.k, A5, x.v, c5⟩) := by rw [hY]; exact ent_made w5 _ _
      have HY := Lib.hid hY
      have HRY := Lib.hid hrY
      have HBY := Lib.hid (hB5.trans (hbY.mono hB5.size))
      have HNY : Hid (x.v = [] ∨ OwnB Y wl.heap.size (.slice A5 x.v.length c5) x.v) := hN.2.imp id fun h => h.below hbY
      have HG5 : Hid (∀ g, A5 = some ⟨g, 0, none⟩ → 0 < x.v.length → wl.heap.size ≤ g ∧ g < w5.heap.size) := fun g hg h0 => by
        rcases hN.2 with h | h
        · rw [h] at h0; exact absurd h0 (by decide)
        obtain ⟨g', e, h1, h2, _⟩ := h.at h0
        rw [hg] at e
        cases e
        exact ⟨h1, h2⟩
      have LV5 : Hid (∀ w', Keep (fun i => wl.heap.size ≤ i ∧ i < w5.heap.size) Y w' → w'.cell? ⟨w5.heap.size, 32, none⟩ = some (.slice A5 x.v.length c5)) := fun w' h => by
        have := range_val hrY HKL.out
        rw [Nat.zero_add] at this
        exact h.cellAt this fun hl => by have := hl.2; exact absurd this (Nat.lt_irrefl _)
      have lv5 : (w5.alloc (.cells (enC ⟨x.k, A5, x.v, c5⟩).toArray 39)).cell? ⟨w5.heap.size, 32, none⟩ = some (.slice A5 x.v.length c5) := by
        rw [← hY]
        exact LV5.out Y (Keep.refl _ _)
      clear hN hB5 hY hbY hrY HC
      go_wp2_with fail
      rw [← HY.out]
      clear lv5 st HY
      go_loopg [10, 55] x.v.length (fun gg _ i wq => ∃ (k : Nat) (l' : List UInt8), i = .int .i64 k ∧ k ≤ x.v.length ∧ x.v.length - k = gg ∧ l'.length = x.v.length ∧ (x.v = [] ∨ OwnB wq wl.heap.size (.slice A5 x.v.length c5) l') ∧ Keep (fun i => wl.heap.size ≤ i ∧ i < w5.heap.size) Y wq)
      case atStart => exact ⟨0, x.v, rfl, by omega, by omega, rfl, HNY.out, Keep.refl _ _⟩
      case round =>
        obtain ⟨k, l', rfl, hkl, rfl, hl', hO, hK⟩ := hrel
        have HKr := Lib.hid hK
        have HL' := Lib.hid hl'
        have lv6 := LV5.out wr hK
        by_cases hlt : k < x.v.length
        · have hO1 : OwnB wr wl.heap.size (.slice A5 l'.length c5) l' := by
            rw [hl']
            rcases hO with h | h
            · rw [h] at hlt; exact absurd hlt (Nat.not_lt_zero _)
            · exact h
          obtain ⟨y, hy⟩ : ∃ y, l'[k]? = some y := ⟨_, List.getElem?_eq_getElem (by omega)⟩
          clear hO hK hl'
          obtain ⟨g, rfl, hg, hgl, hfz, hcell, hset⟩ := hO1.at (by have := HL'.out; omega)
          have hc2 : wr.cell? ⟨g, k, none⟩ = some (.int .u8 (y.toNat : Int)) := hcell k y hy
          have hf := hfz k
          obtain ⟨z, hz⟩ := incr y
          have HSET : Hid (OwnB (wr.setCell ⟨g, k, none⟩ (bv z)) wl.heap.size (.slice (some ⟨g, 0, none⟩) x.v.length c5) (l'.set k z)) := by
            have := hset k z (by have := HL'.out; omega)
            rw [HL'.out] at this
            exact this
          have HGL := Lib.hid (HG5.out g rfl (by omega))
          have dk : decide (k < x.v.length) = true := decide_eq_true hlt
          have p0 : (0 : Int) ≤ (k : Int) := by omega
          have p1 : (k : Int) < (x.v.length : Int) := by omega
          clear hO1 hcell hset hfz hy hg hgl
          go_wp2_with fail
          go_roundg (x.v.length - (k + 1))
          case measure => omega
          case rel =>
            refine ⟨k + 1, l'.set k z, by go_num, by omega, rfl, by rw [List.length_set]; exact HL'.out, .inr HSET.out, HKr.out.step (Keep.cell _ _ _) fun i hi => .inl (by subst hi; exact HGL.out)⟩
        · obtain rfl : k = x.v.length := by omega
          have dk : decide (x.v.length < x.v.length) = false := decide_eq_false (by omega)
          have HBq : Hid (Below wl.heap.size wl wr) := HBY.out.trans (HKr.out.below (B := wl.heap.size) HBY.out.size fun i hi => hi.1)
          have HM2 := Lib.hid (nd.below HM.out HBq.out)
          have HBq2 : Hid (Below X.heap.size X wr) := HBl.out.trans (HBq.out.mono HBl.out.size)
          clear hO hK hl' HKr HL' HNY HG5 LV5 HBY HBq HM HVl
          obtain ⟨wm, rfl⟩ : ∃ wm : World, wm = wr := ⟨_, rfl⟩
          have HC := Lib.hid (nd.entry wm n _ HM2.out)
          go_wp2_with fail
          refine HC.out.mono ?_
          rintro _ w6 ⟨A6, c6, rfl, hN6, hB6⟩
          rw [show entT (Tv.leaf (.pointer (some aa)) (En.ent ⟨x.k, Ao, x.v, co⟩)).tr = ⟨x.k, x.v⟩ from rfl] at hN6 ⊢
          have hBA6 : BA w6 A6 x.v := NewB.ba (l := x.v) hN6
          have st := stE_new (w := w6) (e := ⟨x.k, A6, x.v, c6⟩) (z := ⟨z26, none, [], 0⟩) HKL.out rfl
          obtain ⟨Z, hZ⟩ : ∃ Z, Z = w6.alloc (.cells (enC ⟨x.k, A6, x.v, c6⟩).toArray 39) := ⟨_, rfl⟩
          have hbZ : Below w6.heap.size w6 Z := by rw [hZ]; exact (Below.refl _ _).alloc (Nat.le_refl _) _
          have hrZ : Z.rangeAt w6.heap.size 0 (enC ⟨x.k, A6, x.v, c6⟩) := by rw [hZ]; exact ent_made w6 _ _
          have HZ := Lib.hid hZ
          have hBZ : Below wm.heap.size wm Z := hB6.trans (hbZ.mono hB6.size)
          have hBX : Below X.heap.size X Z := HBq2.out.trans (hBZ.mono HBq2.out.size)
          have HBX := Lib.hid hBX
          have lkE : ∀ q : Later Z, ldA 36 q.w (.pointer (some ⟨W.heap.size, 0, none⟩)) = .ok (.value (.agg (bA x.k))) q.w := fun q => LK.out q.w (hBX.trans (q.h.mono hBX.size))
          have lvE : ∀ q : Later Z, q.w.cell? ⟨W.heap.size, 32, none⟩ = some (.slice x.A x.v.length x.c) := fun q => LV.out q.w (hBX.trans (q.h.mono hBX.size))
          have lkG : ∀ q : Later Z, ldA 36 q.w (.pointer (some ⟨w6.heap.size, 0, none⟩)) = .ok (.value (.agg (bA x.k))) q.w := fun q => range_key (e := ⟨x.k, A6, x.v, c6⟩) (range_below hrZ q.h) HKL.out
          have lvG : ∀ q : Later Z, q.w.cell? ⟨w6.heap.size, 32, none⟩ = some (.slice A6 x.v.length c6) := fun q => by
            have := range_val (e := ⟨x.k, A6, x.v, c6⟩) (range_below hrZ q.h) HKL.out
            rwa [Nat.zero_add] at this
          have HBAE : Hid (∀ q : Later Z, BA q.w x.A x.v) := fun q => HXO.out.val.below (hBX.trans (q.h.mono hBX.size))
          have HBAG : Hid (∀ q : Later Z, BA q.w A6 x.v) := fun q => (hBA6.below hbZ).below q.h
          have HMq : Hid (∀ q : Later Z, M q.w n (.leaf (.pointer (some aa)) (En.ent ⟨x.k, Ao, x.v, co⟩))) := fun q => nd.below (nd.below HM2.out hBZ) q.h
          have HVq : Hid (∀ q : Later Z, Vars q.w) := fun q => (HVX.out.below hBX).below q.h
          obtain ⟨gl, hgl⟩ : ∃ g, g = x.k ++ digL n (valL x.v) := ⟨_, rfl⟩
          have hgll : gl.length = 64 := by rw [hgl, List.length_append, HKL.out, dig_len]
          have C1 : ∀ q : Later Z, Calls Tryd.prog 11 #[] q.w fun e w' => e = .returned (.bool true) ∧ Below q.w.heap.size q.w w' := fun q => HAL.out q.w (HVq.out q)
          have C2 : ∀ q : Later Z, Calls Tryd.prog 18 #[.slice A6 x.v.length c6, .slice x.A x.v.length x.c] q.w fun e w' => e = .returned (.bool true) ∧ Below q.w.heap.size q.w w' := fun q => same_yes A6 x.A c6 x.c _ x.v q.w rfl (HBAG.out q) (HBAE.out q) (by omega)
          have C3 : ∀ q : Later Z, Calls Tryd.prog 19 #[.pointer (some aa)] q.w fun e w' => e = .returned (.agg (bA gl)) ∧ Below q.w.heap.size q.w w' := fun q => by rw [hgl]; exact nd.leafOf q.w n _ (HMq.out q)
          have C4 : ∀ q : Later Z, Calls Tryd.prog 20 #[.int .i64 n, .agg (bA x.k), .slice x.A x.v.length x.c] q.w fun e w' => e = .returned (.agg (bA gl)) ∧ Below q.w.heap.size q.w w' := fun q => by rw [hgl]; exact rleafof_c n x.k x.A x.c x.v q.w HKL.out (HBAE.out q) hxl
          have C5 : ∀ q : Later Z, Calls Tryd.prog 21 #[.pointer (some aa)] q.w fun e w' => e = .returned (.int .i64 1) ∧ Below q.w.heap.size q.w w' := fun q => nd.kind q.w n _ (HMq.out q)
          have C6 : ∀ q : Later Z, Calls Tryd.prog 22 #[.pointer (some aa)] q.w fun e w' => e = .returned (.int .i64 1) ∧ Below q.w.heap.size q.w w' := fun q => nd.len q.w n _ (HMq.out q) (show 1 ≤ 1000000000 by decide)
          have C7 : ∀ q : Later Z, Calls Tryd.prog 23 #[.pointer (some aa)] q.w fun e w' => e = .returned (.pointer none) ∧ Below q.w.heap.size q.w w' := fun q => nd.left q.w n _ (HMq.out q)
          have C8 : ∀ q : Later Z, Calls Tryd.prog 24 #[.pointer (some aa)] q.w fun e w' => e = .returned (.pointer none) ∧ Below q.w.heap.size q.w w' := fun q => nd.right q.w n _ (HMq.out q)
          have qk : ∀ o p w, eqA .eql 36 o p w (.agg (bA x.k)) (.agg (bA x.k)) = .ok (.value (.bool true)) w := fun o p w => by rw [eqKey x.k x.k HKL.out HKL.out, decide_eq_true rfl]
          have ql : ∀ o p w, eqA .eql 44 o p w (.agg (bA gl)) (.agg (bA gl)) = .ok (.value (.bool true)) w := fun o p w => by rw [eqLeaf gl gl hgll hgll, decide_eq_true rfl]
          have HC1 := Lib.hid C1
          have HC2 := Lib.hid C2
          have HC3 := Lib.hid C3
          have HC4 := Lib.hid C4
          have HC5 := Lib.hid C5
          have HC6 := Lib.hid C6
          have HC7 := Lib.hid C7
          have HC8 := Lib.hid C8
          clear hN6 hB6 hZ hbZ hrZ hBZ hBX hBA6 HC lv6 hgl hgll C1 C2 C3 C4 C5 C6 C7 C8
          go_wp2_with fail
          rw [← HZ.out]
          refine wp_region_later (by kernel_rfl) (by kernel_rfl) ?_
          repeat (go_big_quiet_step ((first | (go_at_call 11; exact Later.call (HC1.out _)) | (go_at_call 18; exact Later.call (HC2.out _)) | (go_at_call 19; exact Later.call (HC3.out _)) | (go_at_call 20; exact Later.call (HC4.out _)) | (go_at_call 21; exact Later.call (HC5.out _)) | (go_at_call 22; exact Later.call (HC6.out _)) | (go_at_call 23; exact Later.call (HC7.out _)) | (go_at_call 24; exact Later.call (HC8.out _)))))
          refine wpQuiet_nil ?_
          rintro _ ⟨q, rfl⟩
          have HQ := Lib.hid (HBX.out.trans (q.h.mono HBX.out.size))
          clear lkE lvE lkG lvG qk ql
          go_wp2_with fail
          go_ret
          exact ⟨rfl, HB0.out.trans (HQ.out.mono HB0.out.size)⟩
set_option maxHeartbeats 4000000 in
set_option maxRecDepth 100000 in
/-- Other bits, or a long value: alive. -/
theorem leaves_out (ha : Alive7) (n : Int) (x : En) (W : World) (hX : EnOk W x) (hvx : Vars W) (h : (n < 0 ∨ 256 < n) ∨ 1000 < x.v.length) :
    Calls Tryd.prog 4 #[.int .i64 n, .agg (enC x).toArray] W (Aye W) := by
  obtain ⟨X, hXX⟩ : ∃ X, X = W.alloc (.cells (enC x).toArray 39) := ⟨_, rfl⟩
  have hb0 : Below W.heap.size W X := by rw [hXX]; exact (Below.refl _ _).alloc (Nat.le_refl _) _
  have hr0 : X.rangeAt W.heap.size 0 (enC x) := by rw [hXX]; exact ent_made W x _
  have HXX := Lib.hid hXX
  have HB0 := Lib.hid hb0
  have LV : Hid (∀ w', Below X.heap.size X w' → w'.cell? ⟨W.heap.size, 32, none⟩ = some (.slice x.A x.v.length x.c)) := fun w' h => by
    have := range_val (range_below hr0 h) hX.key
    rwa [Nat.zero_add] at this
  have HVX := Lib.hid (hvx.below hb0)
  have HAL := Lib.hid ha
  clear hvx ha hX hXX hb0 hr0
  by_cases hn : n < 0 ∨ 256 < n
  · have HR : Hid (∀ w, Calls Tryd.prog 9 #[.int .i64 n] w fun e w' => e = .returned (.bool false) ∧ w = w') := fun w => by
      have := right5_c n w
      rwa [decide_eq_false (by omega)] at this
    have HH := Lib.hid (hash_out n X hn)
    clear hn h
    go_enter Tryd.func4, Tryd.ntmps4
    go_wp2_with fail
    rw [← HXX.out]
    clear HXX
    refine HH.out.mono ?_
    rintro _ w1 ⟨rfl, hB⟩
    have HB := Lib.hid hB
    clear hB
    go_wp2_with fail
    refine (HR.out w1).mono ?_
    rintro _ _ ⟨rfl, rfl⟩
    go_wp2_with fail
    refine (HAL.out w1 (HVX.out.below HB.out)).mono ?_
    rintro _ w2 ⟨rfl, hB2⟩
    have HB2 := Lib.hid (HB.out.trans (hB2.mono HB.out.size))
    clear hB2
    go_wp2_with fail
    go_ret
    exact ⟨rfl, HB0.out.trans (HB2.out.mono HB0.out.size)⟩
  · have hx := h.elim (fun h => absurd h hn) id
    have h0 : 0 ≤ n := by omega
    have h1 : n ≤ 256 := by omega
    have HR : Hid (∀ w, Calls Tryd.prog 9 #[.int .i64 n] w fun e w' => e = .returned (.bool true) ∧ w = w') := fun w => by
      have := right5_c n w
      rwa [decide_eq_true ⟨h0, h1⟩] at this
    have HH := Lib.hid (hash_in n X h0 h1)
    have dx : decide (1000 < x.v.length) = true := decide_eq_true hx
    have dx2 : decide (1000 < (x.v.length : Int)) = true := decide_eq_true (by omega)
    clear hn h hx
    go_enter Tryd.func4, Tryd.ntmps4
    go_wp2_with fail
    rw [← HXX.out]
    clear HXX
    refine HH.out.mono ?_
    rintro _ w1 ⟨b, rfl, hb, hH, hB⟩
    have HB := Lib.hid hB
    clear hB hH hb
    go_wp2_with fail
    refine (HR.out w1).mono ?_
    rintro _ _ ⟨rfl, rfl⟩
    have lv := LV.out w1 HB.out
    go_wp2_with fail
    refine (HAL.out w1 (HVX.out.below HB.out)).mono ?_
    rintro _ w2 ⟨rfl, hB2⟩
    have HB2 := Lib.hid (HB.out.trans (hB2.mono HB.out.size))
    clear hB2
    go_wp2_with fail
    go_ret
    exact ⟨rfl, HB0.out.trans (HB2.out.mono HB0.out.size)⟩
theorem leaves_w {M : World → Int → Tv → Prop} (nd : NdV M) (ha : Alive7) (n : Int) (x : En) (W : World) (hX : EnOk W x) (hvx : Vars W) :
    Calls Tryd.prog 4 #[.int .i64 n, .agg (enC x).toArray] W (Aye W) := by
  rcases Classical.em ((n < 0 ∨ 256 < n) ∨ 1000 < x.v.length) with h | h
  · exact leaves_out ha n x W hX hvx h
  · exact leaves_in nd ha n x W hX (Nat.le_of_not_lt fun h1 => h (.inr h1)) hvx (by omega) (by omega)
end Go.Proofs.YtdoanibgcogejaaDoor
