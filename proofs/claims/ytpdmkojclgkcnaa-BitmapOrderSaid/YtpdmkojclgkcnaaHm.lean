/- The function of BitmapOrder returns true. -/
import Derived.Test.YtpdmkojclgkcnaaHi
import Derived.Deep.AppendLies
import Derived.Deep.RegionHeld3
namespace Go.Proofs.Ytpdmkojclgkcnaa.Bt
open Go.RowKit

set_option maxRecDepth 100000 in
set_option maxHeartbeats 1000000 in
theorem order_long (A : Option Addr) (c n : Nat) (w : World) (h : 300 < n) : Calls Try.prog 8 #[.slice A n c] w (Yes w) := by
  have hd : decide ((300 : Int) < n) = true := by simp; omega
  clear h
  go_enter Try.func8, Try.ntmps8
  go_wp2_with fail
  refine (alive14_c _).mono ?_
  rintro e w1 ⟨rfl, hb⟩
  have HB := Lib.hid hb
  clear hb
  go_wp2
  go_ret
  exact ⟨rfl, HB.out⟩
/-- The calls that the law makes, over opaque results. -/
structure Orv (l m : List Int) (n n2 t : Nat) (k1 k2 : Nat → Nat) (L : List Int) : Prop where
  o1 : ∀ A c w, ZA w A l → Calls Try.prog 10 #[.slice A n c] w fun e w' => e = .returned (.agg (kc k1)) ∧ Below w.heap.size w w'
  o2 : ∀ A c w, ZA w A m → Calls Try.prog 10 #[.slice A n2 c] w fun e w' => e = .returned (.agg (kc k2)) ∧ Below w.heap.size w w'
  q : keq k2 k1 = true
  s : ∀ w, Calls Try.prog 18 #[.agg (kc k2)] w fun e w' => ∃ A c, e = .returned (.slice A t c) ∧ ZA w' A L ∧ Below w.heap.size w w'
  r : ∀ A c w, ZA w A l → Calls Try.prog 20 #[.slice A n c] w fun e w' => ∃ A c, e = .returned (.slice A t c) ∧ ZA w' A L ∧ Below w.heap.size w w'
  y : ∀ A B c d w, ZA w A L → ZA w B L → Calls Try.prog 17 #[.slice A t c, .slice B t d] w fun e w' => e = .returned (.bool true) ∧ Below w.heap.size w w'
theorem orv (l : List Int) (hl : l.length ≤ 300) : Orv l (ord l l.length) l.length (ord l l.length).length (setZ (ofK l) 256).length (ofK l) (ofK (ord l l.length)) (setZ (ofK l) 256) where
  o1 A c w h := ofs_c A c _ w h (by omega)
  o2 A c w h := ofs_c A c _ w h (by rw [ord_len]; omega)
  q := (keq_iff _ _).2 (ofK_congr (mem_ord l)).2
  s w := by
    refine (list_c _ (ofK_byt _) w).mono ?_
    rintro e w' ⟨v, rfl, hO, hb⟩
    rw [setZ_congr 256 (ofK_congr (mem_ord l)).1] at hO
    obtain ⟨A, c, rfl, hz⟩ := hO.is
    exact ⟨A, c, rfl, hz, hb⟩
  r A c w h := by
    refine (rlist_c A c l w h (by omega)).mono ?_
    rintro e w' ⟨v, rfl, hO, hb⟩
    rw [refZ_eq l 256 (Nat.le_refl _)] at hO
    obtain ⟨A, c, rfl, hz⟩ := hO.is
    exact ⟨A, c, rfl, hz, hb⟩
  y A B c d w h1 h2 := by
    have h3 := setZ_len (ofK l) 256
    have := zsame_c A B c d _ _ w h1 h2 (by omega) (by omega)
    rwa [decide_eq_true rfl] at this
theorem wrap_inr {x : Int} (h : -9223372036854775808 ≤ x) (h2 : x < 9223372036854775808) : IntKind.i64.wrap x = x := by
  unfold IntKind.wrap
  rw [show (2 : Int) ^ IntKind.i64.bits = 18446744073709551616 from rfl, show IntKind.i64.signed = true from rfl]
  rw [show (2 : Int) ^ (IntKind.i64.bits - 1) = 9223372036854775808 from rfl]
  simp only [Bool.true_and, decide_eq_true_eq]
  split <;> omega
theorem ord_cells (l : List Int) (m : Nat) : (ord l (m + 1)).map zv = (ord l m).map zv ++ [.int .i64 (l.getD (l.length - 1 - m) 0), .int .i64 (l.getD m 0)] := by
  show (ord l m ++ _).map zv = _
  rw [List.map_append]; rfl
set_option maxRecDepth 100000 in
set_option maxHeartbeats 4000000 in
theorem order_in {l : List Int} {t : Nat} {k1 k2 : Nat → Nat} {L : List Int} (R : Orv l (ord l l.length) l.length (ord l l.length).length t k1 k2 L) (hl : l.length ≤ 300)
    (A : Option Addr) (c : Nat) (w : World) (hA : ZA w A l) : Calls Try.prog 8 #[.slice A l.length c] w (Yes w) := by
  have d1 : decide ((300 : Int) < l.length) = false := by simp; omega
  obtain ⟨i0, hi, hz0, hz1, hz2⟩ := info_parts infoZ
  have HR := Lib.hid R
  have HA := Lib.hid hA
  clear R hA
  go_enter Try.func8, Try.ntmps8
  go_wp2
  go_loopg [3, 11] l.length (fun g v j wr => ∃ m : Nat, j = .int .i64 m ∧ m ≤ l.length ∧ l.length - m ≤ g ∧ OwnZ wr w.heap.size v (ord l m) ∧ Below w.heap.size w wr)
  case atStart => exact ⟨0, rfl, by omega, by omega, OwnZ.nil _ _, Below.refl _ _⟩
  case round =>
    obtain ⟨m, rfl, hm, hg, hO, hB⟩ := hrel
    have HB := Lib.hid hB
    by_cases hlt : m < l.length
    · have hd : decide ((m : Int) < l.length) = true := by simp; omega
      have HO : Hid (wr.ownsRow w.heap.size 3 1 u3 (ord l m).length ((ord l m).map zv)) := hO
      have hOg := Lib.hid hO.ge
      obtain ⟨x, hx⟩ : ∃ x, x = l.getD m 0 := ⟨_, rfl⟩
      obtain ⟨y, hy⟩ : ∃ y, y = l.getD (l.length - 1 - m) 0 := ⟨_, rfl⟩
      have hne := Lib.hid (ord_cells l m)
      rw [← hx, ← hy] at hne
      have hx1 : l[m]? = some x := by rw [hx, List.getD_eq_getElem?_getD, List.getElem?_eq_getElem hlt]; rfl
      have hy1 : l[l.length - 1 - m]? = some y := by rw [hy, List.getD_eq_getElem?_getD, List.getElem?_eq_getElem (by omega)]; rfl
      obtain ⟨r, hr⟩ : ∃ r, r = l.length - 1 - m := ⟨_, rfl⟩
      rw [← hr] at hy1
      have hri : ((l.length : Int) - 1 - m) = (r : Int) := by omega
      have hrl : r < l.length := by omega
      obtain ⟨b, o, rfl, hc1⟩ := (HA.out.below HB.out) m x hx1
      obtain ⟨b', o', e', hc2⟩ := (HA.out.below HB.out) r y hy1
      cases e'
      have hbw : b < w.heap.size := by obtain ⟨b2, o2, e2, hc⟩ := HA.out m x hx1; cases e2; exact bt_lt_cell hc
      have HKP : Hid (∀ w', Below w.heap.size wr w' → w'.cell? ⟨b, o + m, none⟩ = some (.int .i64 x) ∧ w'.cell? ⟨b, o + r, none⟩ = some (.int .i64 y)) := fun w' h => ⟨(h.cell hbw).trans hc1, (h.cell hbw).trans hc2⟩
      have hw1 : IntKind.i64.wrap ((l.length : Int) - 1) = (l.length : Int) - 1 := wrap_inr (by omega) (by omega)
      have hw2 : IntKind.i64.wrap ((l.length : Int) - 1 - m) = (r : Int) := by rw [hri]; exact wrap_inr (by omega) (by omega)
      have hi0 : (0 : Int) ≤ (r : Int) := by omega
      have hi1 : (r : Int) < (l.length : Int) := by omega
      have hi2 : (0 : Int) ≤ (m : Int) := by omega
      have hi3 : (m : Int) < (l.length : Int) := by omega
      have hol := ord_len l m
      have hol2 := Lib.hid (ord_len l (m + 1))
      clear hx hy hx1 hy1 hr hO hB hc1 hc2 hri
      go_wp2_with fail
      go_region_held3 (fun w' => w'.cell? ⟨b, o + m, none⟩ = some (.int .i64 x) ∧ w'.cell? ⟨b, o + r, none⟩ = some (.int .i64 y)) (exact HKP.out _ (by first | exact (Below.refl _ _).drew | exact ((Below.refl _ _).alloc HB.out.size _).drew | exact (((Below.refl _ _).alloc HB.out.size _).drew).grown hgrow (by have := HB.out.size; simp; omega) hOg.out)) ((refine step_append_lies _ (by rfl) _ _ _ (by rfl) w.heap.size 3 i0 (.int .i64 0) 1 8 Try.underlying22 hi hz0 hz1 hz2 rfl (by omega) u3 (ord l m).length ((ord l m).map zv) (by rfl) ((HO.out.alloc _).drew) ⟨wr.heap.size, 0, none⟩ 2 2 [.int .i64 y, .int .i64 x] (by rfl) (by rfl) (World.news_of_block (cs := #[.int .i64 y, .int .i64 x]) (t := 3) (fr := (0, 0)) (heap_alloc_new wr _)) (by simp [Value.oneCell']) (by omega) (by unfold maxLen; omega) (by omega) (by have := HB.out.size; simp; omega) (wr.heap.size + 1) (by simp) ?_; intro gg cap w1 hown1 hgrow hat hlt1))
      all_goals
        have HO1 : Hid (OwnZ w1 w.heap.size (.slice (some ⟨gg, 0, none⟩) ((ord l m).length + 2) cap) (ord l (m + 1))) := by
          show OwnZ _ _ _ _
          unfold OwnZ
          rw [hne.out, hol2.out, show 2 * (m + 1) = (ord l m).length + 2 by omega]
          exact hown1
        have HB1 : Hid (Below w.heap.size w w1) := ((HB.out.alloc HB.out.size _).drew).grown hgrow (by have := HB.out.size; simp; omega) hOg.out
        clear hown1 hgrow hat hlt1 hne
        go_wp2
        go_roundg (l.length - (m + 1))
        case measure => omega
        case rel => exact ⟨m + 1, by go_num, by omega, by omega, by have := HO1.out; rwa [hol] at this, HB1.out⟩
    · have hd : decide ((m : Int) < l.length) = false := by simp; omega
      obtain rfl : m = l.length := by omega
      obtain ⟨X, rfl⟩ : ∃ X : World, X = wr := ⟨_, rfl⟩
      obtain ⟨A1, c1, rfl, hz1⟩ := hO.is
      have HZ1 := Lib.hid hz1
      have hq := HR.out.q
      clear hO hB hz1 hlt hg hm
      go_wp2_with fail
      refine (alive14_c _).mono ?_
      rintro e w1 ⟨rfl, hb⟩
      have HB1 := Lib.hid (HB.out.trans (hb.mono HB.out.size))
      have HZ2 := Lib.hid (HZ1.out.below hb)
      clear hb
      go_wp2_with fail
      refine (HR.out.o2 A1 c1 w1 HZ2.out).mono ?_
      rintro e w2 ⟨rfl, hb⟩
      have HB2 := Lib.hid (HB1.out.trans (hb.mono HB1.out.size))
      have HZ3 := Lib.hid (HZ2.out.below hb)
      clear hb
      go_wp2_with fail
      refine (HR.out.o1 A c w2 (HA.out.below HB2.out)).mono ?_
      rintro e w3 ⟨rfl, hb⟩
      have HB3 := Lib.hid (HB2.out.trans (hb.mono HB2.out.size))
      have HZ4 := Lib.hid (HZ3.out.below hb)
      clear hb
      go_wp2_with fail
      refine (HR.out.o2 A1 c1 w3 HZ4.out).mono ?_
      rintro e w4 ⟨rfl, hb⟩
      have HB4 := Lib.hid (HB3.out.trans (hb.mono HB3.out.size))
      clear hb
      go_wp2_with fail
      refine (HR.out.s _).mono ?_
      rintro e w5 ⟨A5, c5, rfl, hz5, hb⟩
      have HB5 := Lib.hid (HB4.out.trans (hb.mono HB4.out.size))
      have HZ5 := Lib.hid hz5
      clear hb hz5
      go_wp2_with fail
      refine (HR.out.r A c w5 (HA.out.below HB5.out)).mono ?_
      rintro e w6 ⟨A6, c6, rfl, hz6, hb⟩
      have HB6 := Lib.hid (HB5.out.trans (hb.mono HB5.out.size))
      have HZ6 := Lib.hid (HZ5.out.below hb)
      have HZ7 := Lib.hid hz6
      clear hb hz6
      go_wp2_with fail
      refine (HR.out.y A5 A6 c5 c6 w6 HZ6.out HZ7.out).mono ?_
      rintro e w7 ⟨rfl, hb⟩
      have HB7 := Lib.hid (HB6.out.trans (hb.mono HB6.out.size))
      clear hb
      go_wp2
      go_ret
      exact ⟨rfl, HB7.out⟩
theorem border_w (A : Option Addr) (c : Nat) (l : List Int) (w : World) (hA : ZA w A l) : Calls Try.prog 8 #[.slice A l.length c] w (Yes w) := by
  by_cases h : 300 < l.length
  · exact order_long A c _ w h
  · exact order_in (orv l (by omega)) (by omega) A c w hA
end Go.Proofs.Ytpdmkojclgkcnaa.Bt
