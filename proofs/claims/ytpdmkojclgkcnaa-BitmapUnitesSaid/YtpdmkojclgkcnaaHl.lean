/- The function of BitmapUnites returns true. -/
import Derived.Test.YtpdmkojclgkcnaaHi
namespace Go.Proofs.Ytpdmkojclgkcnaa.Bt
open Go.RowKit

/-- The calls that the law makes, over opaque results. -/
structure Uni (l m : List Int) (i : Int) (n n1 n2 : Nat) (k k1 k2 : Nat → Nat) (p p1 p2 : Bool) (z z1 z2 : Int) : Prop where
  o : ∀ A c w, ZA w A (l ++ m) → Calls Try.prog 10 #[.slice A n c] w fun e w' => e = .returned (.agg (kc k)) ∧ Below w.heap.size w w'
  o1 : ∀ A c w, ZA w A l → Calls Try.prog 10 #[.slice A n1 c] w fun e w' => e = .returned (.agg (kc k1)) ∧ Below w.heap.size w w'
  o2 : ∀ A c w, ZA w A m → Calls Try.prog 10 #[.slice A n2 c] w fun e w' => e = .returned (.agg (kc k2)) ∧ Below w.heap.size w w'
  h : ∀ w, Calls Try.prog 12 #[.agg (kc k), .int .i64 i] w fun e w' => e = .returned (.bool p) ∧ Below w.heap.size w w'
  h1 : ∀ w, Calls Try.prog 12 #[.agg (kc k1), .int .i64 i] w fun e w' => e = .returned (.bool p1) ∧ Below w.heap.size w w'
  h2 : ∀ w, Calls Try.prog 12 #[.agg (kc k2), .int .i64 i] w fun e w' => e = .returned (.bool p2) ∧ Below w.heap.size w w'
  t : ∀ w, Calls Try.prog 19 #[.agg (kc k)] w fun e w' => e = .returned (.int .i64 z) ∧ Below w.heap.size w w'
  t1 : ∀ w, Calls Try.prog 19 #[.agg (kc k1)] w fun e w' => e = .returned (.int .i64 z1) ∧ Below w.heap.size w w'
  t2 : ∀ w, Calls Try.prog 19 #[.agg (kc k2)] w fun e w' => e = .returned (.int .i64 z2) ∧ Below w.heap.size w w'
theorem uni (l m : List Int) (i : Int) (hl : l.length ≤ 300) (hm : m.length ≤ 300) :
    Uni l m i (l ++ m).length l.length m.length (ofK (l ++ m)) (ofK l) (ofK m) (hasK (ofK (l ++ m)) i) (hasK (ofK l) i) (hasK (ofK m) i) (lastTo (ofK (l ++ m)) 256) (lastTo (ofK l) 256) (lastTo (ofK m) 256) where
  o A c w h := ofs_c A c _ w h (by rw [List.length_append]; omega)
  o1 A c w h := ofs_c A c _ w h (by omega)
  o2 A c w h := ofs_c A c _ w h (by omega)
  h w := has_c _ (ofK_byt _) i w
  h1 w := has_c _ (ofK_byt _) i w
  h2 w := has_c _ (ofK_byt _) i w
  t w := last_c _ (ofK_byt _) w
  t1 w := last_c _ (ofK_byt _) w
  t2 w := last_c _ (ofK_byt _) w
set_option maxRecDepth 100000 in
set_option maxHeartbeats 4000000 in
theorem unites_yes {l m : List Int} {i : Int} {n n1 n2 : Nat} {k k1 k2 : Nat → Nat} {p2 : Bool} {z z1 z2 : Int} (U : Uni l m i n n1 n2 k k1 k2 true true p2 z z1 z2) (hz : z = max z1 z2)
    (hn : n = l.length + m.length) (hn1 : n1 = l.length) (hn2 : n2 = m.length) (h1 : n1 ≤ 300) (h2 : n2 ≤ 300)
    (A B : Option Addr) (c d : Nat) (w : World) (hA : ZA w A l) (hB : ZA w B m) : Calls Try.prog 7 #[.slice A n1 c, .slice B n2 d, .int .i64 i] w (Yes w) := by
  have d1 : decide ((300 : Int) < n1) = false := by simp; omega
  have d2 : decide ((300 : Int) < n2) = false := by simp; omega
  have hpp : (p2 == p2) = true := by simp
  have hzz : (z == z) = true := by simp
  have HU := Lib.hid U
  have HA := Lib.hid hA
  have HB := Lib.hid hB
  have HN := Lib.hid hn
  have HN1 := Lib.hid hn1
  have HN2 := Lib.hid hn2
  have HL1 : Hid (l.length ≤ 300) := by show _ ≤ _; omega
  have HL2 : Hid (m.length ≤ 300) := by show _ ≤ _; omega
  have hmx : ∀ (ts : Array TypeId) (t : TypeId) (W : World), (Builtin.max_ ts t #[.int .i64 z1, .int .i64 z2]).run Try.prog W = .ok (.int .i64 z) W := fun ts t W => by
    rw [run_max_int2, hz, show (if z2 > z1 then z2 else z1) = max z1 z2 by split <;> omega]
  clear U hA hB hn hn1 hn2 h1 h2 hz
  go_enter Try.func7, Try.ntmps7
  go_wp2_with (at_builtin; first
    | (refine wpList_catZ rfl _ _ rfl w.heap.size (.slice (some ⟨w.heap.size, 0, none⟩) 0 0) [] rfl (OwnZ_new w) (by simp) A c l (by rw [← HN1.out]; rfl) (HA.out.below (one_below _ _)) (by simp) (by have := HL1.out; omega) (by simp) ?_
       intro v1 w1 hO1 hv1 hB1
       have HO1 := Lib.hid hO1
       have HV1 := Lib.hid hv1
       have HB1 := Lib.hid ((one_below w (.cells #[] 3)).trans hB1)
       clear hO1 hv1 hB1)
    | (refine wpList_catZ rfl _ _ rfl w.heap.size _ ([] ++ l) rfl HO1.out HV1.out B d m (by rw [← HN2.out]; rfl) (HB.out.below HB1.out) (by have := HL1.out; simp; omega) (by have := HL2.out; omega) HB1.out.size ?_
       intro v2 w2 hO2 hv2 hB2
       obtain ⟨A2, c2, rfl, hz2⟩ := hO2.is
       have HB2 := Lib.hid (HB1.out.trans hB2)
       have HZ2 : Hid (ZA w2 A2 (l ++ m)) := hz2
       clear hO2 hv2 hB2 hz2))
  rw [← HN.out]
  refine (HU.out.o A2 c2 w2 HZ2.out).mono ?_
  rintro e w3 ⟨rfl, hb⟩
  have HB3 := Lib.hid (HB2.out.trans (hb.mono HB2.out.size))
  clear hb
  go_wp2_with fail
  refine (alive14_c _).mono ?_
  rintro e w4 ⟨rfl, hb⟩
  have HK4 := Lib.hid ((BmAt.one w3 k).below hb (by simp))
  have HB4 : Hid (Below w.heap.size w w4) := HB3.out.trans ((one_below _ _).trans (hb.mono (by simp)) |>.mono HB3.out.size)
  have hl := HK4.out.ld
  clear hb
  go_wp2_with fail
  refine (HU.out.h _).mono ?_
  rintro e w5 ⟨rfl, hb⟩
  have HB5 := Lib.hid (HB4.out.trans (hb.mono HB4.out.size))
  have HK5 := Lib.hid (HK4.out.below hb HK4.out.lt)
  clear hb hl
  go_wp2_with fail
  refine (HU.out.o1 A c w5 (HA.out.below HB5.out)).mono ?_
  rintro e w6 ⟨rfl, hb⟩
  have HB6 := Lib.hid (HB5.out.trans (hb.mono HB5.out.size))
  have HK6 := Lib.hid (HK5.out.below hb HK5.out.lt)
  clear hb
  go_wp2_with fail
  refine (HU.out.h1 _).mono ?_
  rintro e w7 ⟨rfl, hb⟩
  have HB7 := Lib.hid (HB6.out.trans (hb.mono HB6.out.size))
  have HK7 := Lib.hid (HK6.out.below hb HK6.out.lt)
  have hl := HK7.out.ld
  clear hb
  go_wp2_with fail
  refine (HU.out.t _).mono ?_
  rintro e wa ⟨rfl, hb⟩
  have HBa := Lib.hid (HB7.out.trans (hb.mono HB7.out.size))
  clear hb hl
  go_wp2_with fail
  refine (HU.out.o1 A c wa (HA.out.below HBa.out)).mono ?_
  rintro e wb ⟨rfl, hb⟩
  have HBb := Lib.hid (HBa.out.trans (hb.mono HBa.out.size))
  clear hb
  go_wp2_with fail
  refine (HU.out.t1 _).mono ?_
  rintro e wc ⟨rfl, hb⟩
  have HBc := Lib.hid (HBb.out.trans (hb.mono HBb.out.size))
  clear hb
  go_wp2_with fail
  refine (HU.out.o2 B d wc (HB.out.below HBc.out)).mono ?_
  rintro e wd ⟨rfl, hb⟩
  have HBd := Lib.hid (HBc.out.trans (hb.mono HBc.out.size))
  clear hb
  go_wp2_with fail
  refine (HU.out.t2 _).mono ?_
  rintro e we ⟨rfl, hb⟩
  have HBe := Lib.hid (HBd.out.trans (hb.mono HBd.out.size))
  clear hb
  go_wp2
  go_ret
  exact ⟨rfl, HBe.out⟩
set_option maxRecDepth 100000 in
set_option maxHeartbeats 4000000 in
theorem unites_no {l m : List Int} {i : Int} {n n1 n2 : Nat} {k k1 k2 : Nat → Nat} {p2 : Bool} {z z1 z2 : Int} (U : Uni l m i n n1 n2 k k1 k2 p2 false p2 z z1 z2) (hz : z = max z1 z2)
    (hn : n = l.length + m.length) (hn1 : n1 = l.length) (hn2 : n2 = m.length) (h1 : n1 ≤ 300) (h2 : n2 ≤ 300)
    (A B : Option Addr) (c d : Nat) (w : World) (hA : ZA w A l) (hB : ZA w B m) : Calls Try.prog 7 #[.slice A n1 c, .slice B n2 d, .int .i64 i] w (Yes w) := by
  have d1 : decide ((300 : Int) < n1) = false := by simp; omega
  have d2 : decide ((300 : Int) < n2) = false := by simp; omega
  have hpp : (p2 == p2) = true := by simp
  have hzz : (z == z) = true := by simp
  have HU := Lib.hid U
  have HA := Lib.hid hA
  have HB := Lib.hid hB
  have HN := Lib.hid hn
  have HN1 := Lib.hid hn1
  have HN2 := Lib.hid hn2
  have HL1 : Hid (l.length ≤ 300) := by show _ ≤ _; omega
  have HL2 : Hid (m.length ≤ 300) := by show _ ≤ _; omega
  have hmx : ∀ (ts : Array TypeId) (t : TypeId) (W : World), (Builtin.max_ ts t #[.int .i64 z1, .int .i64 z2]).run Try.prog W = .ok (.int .i64 z) W := fun ts t W => by
    rw [run_max_int2, hz, show (if z2 > z1 then z2 else z1) = max z1 z2 by split <;> omega]
  clear U hA hB hn hn1 hn2 h1 h2 hz
  go_enter Try.func7, Try.ntmps7
  go_wp2_with (at_builtin; first
    | (refine wpList_catZ rfl _ _ rfl w.heap.size (.slice (some ⟨w.heap.size, 0, none⟩) 0 0) [] rfl (OwnZ_new w) (by simp) A c l (by rw [← HN1.out]; rfl) (HA.out.below (one_below _ _)) (by simp) (by have := HL1.out; omega) (by simp) ?_
       intro v1 w1 hO1 hv1 hB1
       have HO1 := Lib.hid hO1
       have HV1 := Lib.hid hv1
       have HB1 := Lib.hid ((one_below w (.cells #[] 3)).trans hB1)
       clear hO1 hv1 hB1)
    | (refine wpList_catZ rfl _ _ rfl w.heap.size _ ([] ++ l) rfl HO1.out HV1.out B d m (by rw [← HN2.out]; rfl) (HB.out.below HB1.out) (by have := HL1.out; simp; omega) (by have := HL2.out; omega) HB1.out.size ?_
       intro v2 w2 hO2 hv2 hB2
       obtain ⟨A2, c2, rfl, hz2⟩ := hO2.is
       have HB2 := Lib.hid (HB1.out.trans hB2)
       have HZ2 : Hid (ZA w2 A2 (l ++ m)) := hz2
       clear hO2 hv2 hB2 hz2))
  rw [← HN.out]
  refine (HU.out.o A2 c2 w2 HZ2.out).mono ?_
  rintro e w3 ⟨rfl, hb⟩
  have HB3 := Lib.hid (HB2.out.trans (hb.mono HB2.out.size))
  clear hb
  go_wp2_with fail
  refine (alive14_c _).mono ?_
  rintro e w4 ⟨rfl, hb⟩
  have HK4 := Lib.hid ((BmAt.one w3 k).below hb (by simp))
  have HB4 : Hid (Below w.heap.size w w4) := HB3.out.trans ((one_below _ _).trans (hb.mono (by simp)) |>.mono HB3.out.size)
  have hl := HK4.out.ld
  clear hb
  go_wp2_with fail
  refine (HU.out.h _).mono ?_
  rintro e w5 ⟨rfl, hb⟩
  have HB5 := Lib.hid (HB4.out.trans (hb.mono HB4.out.size))
  have HK5 := Lib.hid (HK4.out.below hb HK4.out.lt)
  clear hb hl
  go_wp2_with fail
  refine (HU.out.o1 A c w5 (HA.out.below HB5.out)).mono ?_
  rintro e w6 ⟨rfl, hb⟩
  have HB6 := Lib.hid (HB5.out.trans (hb.mono HB5.out.size))
  have HK6 := Lib.hid (HK5.out.below hb HK5.out.lt)
  clear hb
  go_wp2_with fail
  refine (HU.out.h1 _).mono ?_
  rintro e w7 ⟨rfl, hb⟩
  have HB7 := Lib.hid (HB6.out.trans (hb.mono HB6.out.size))
  have HK7 := Lib.hid (HK6.out.below hb HK6.out.lt)
  clear hb
  go_wp2_with fail
  refine (HU.out.o2 B d w7 (HB.out.below HB7.out)).mono ?_
  rintro e w8 ⟨rfl, hb⟩
  have HB8 := Lib.hid (HB7.out.trans (hb.mono HB7.out.size))
  have HK8 := Lib.hid (HK7.out.below hb HK7.out.lt)
  clear hb
  go_wp2_with fail
  refine (HU.out.h2 _).mono ?_
  rintro e w9 ⟨rfl, hb⟩
  have HB9 := Lib.hid (HB8.out.trans (hb.mono HB8.out.size))
  have HK9 := Lib.hid (HK8.out.below hb HK8.out.lt)
  have hl := HK9.out.ld
  clear hb
  go_wp2_with fail
  refine (HU.out.t _).mono ?_
  rintro e wa ⟨rfl, hb⟩
  have HBa := Lib.hid (HB9.out.trans (hb.mono HB9.out.size))
  clear hb hl
  go_wp2_with fail
  refine (HU.out.o1 A c wa (HA.out.below HBa.out)).mono ?_
  rintro e wb ⟨rfl, hb⟩
  have HBb := Lib.hid (HBa.out.trans (hb.mono HBa.out.size))
  clear hb
  go_wp2_with fail
  refine (HU.out.t1 _).mono ?_
  rintro e wc ⟨rfl, hb⟩
  have HBc := Lib.hid (HBb.out.trans (hb.mono HBb.out.size))
  clear hb
  go_wp2_with fail
  refine (HU.out.o2 B d wc (HB.out.below HBc.out)).mono ?_
  rintro e wd ⟨rfl, hb⟩
  have HBd := Lib.hid (HBc.out.trans (hb.mono HBc.out.size))
  clear hb
  go_wp2_with fail
  refine (HU.out.t2 _).mono ?_
  rintro e we ⟨rfl, hb⟩
  have HBe := Lib.hid (HBd.out.trans (hb.mono HBd.out.size))
  clear hb
  go_wp2
  go_ret
  exact ⟨rfl, HBe.out⟩
set_option maxRecDepth 100000 in
set_option maxHeartbeats 1000000 in
theorem unites_long (A B : Option Addr) (c d n1 n2 : Nat) (i : Int) (w : World) (h : 300 < n1 ∨ 300 < n2) : Calls Try.prog 7 #[.slice A n1 c, .slice B n2 d, .int .i64 i] w (Yes w) := by
  by_cases h1 : 300 < n1
  · have d1 : decide ((300 : Int) < n1) = true := by simp; omega
    clear h h1
    go_enter Try.func7, Try.ntmps7
    go_wp2_with fail
    refine (alive14_c _).mono ?_
    rintro e w1 ⟨rfl, hb⟩
    have HB := Lib.hid hb
    clear hb
    go_wp2
    go_ret
    exact ⟨rfl, HB.out⟩
  · have d1 : decide ((300 : Int) < n1) = false := by simp; omega
    have d2 : decide ((300 : Int) < n2) = true := by simp; omega
    clear h h1
    go_enter Try.func7, Try.ntmps7
    go_wp2_with fail
    refine (alive14_c _).mono ?_
    rintro e w1 ⟨rfl, hb⟩
    have HB := Lib.hid hb
    clear hb
    go_wp2
    go_ret
    exact ⟨rfl, HB.out⟩
theorem bunites_w (A B : Option Addr) (c d : Nat) (l m : List Int) (i : Int) (w : World) (hA : ZA w A l) (hB : ZA w B m) : Calls Try.prog 7 #[.slice A l.length c, .slice B m.length d, .int .i64 i] w (Yes w) := by
  by_cases h : 300 < l.length ∨ 300 < m.length
  · exact unites_long A B c d _ _ i w h
  · have U := uni l m i (by omega) (by omega)
    have hp := hasK_or l m i
    have hz := last_or l m
    rw [hp] at U
    cases h1 : hasK (ofK l) i with
    | true =>
      rw [h1, Bool.true_or] at U
      exact unites_yes U hz (by simp) rfl rfl (by omega) (by omega) A B c d w hA hB
    | false =>
      rw [h1, Bool.false_or] at U
      exact unites_no U hz (by simp) rfl rfl (by omega) (by omega) A B c d w hA hB
end Go.Proofs.Ytpdmkojclgkcnaa.Bt
