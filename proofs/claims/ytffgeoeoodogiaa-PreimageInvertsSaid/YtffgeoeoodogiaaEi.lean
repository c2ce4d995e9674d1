/- The walk of PreimageInverts. -/
import Derived.Test.YtffgeoeoodogiaaEf
import Derived.Test.YtffgeoeoodogiaaEh
namespace Go.Proofs.Ytffgeoeoodogiaa
open Go.RowKit

set_option maxHeartbeats 16000000 in
set_option maxRecDepth 100000 in
theorem inverts_w (hp : Pre) (ha : AliveC) (k d g : List UInt8) (hk : k.length = 32) (hd : d.length = 32) (hg : g.length = 32) (W : World) :
    Calls Try.prog 6 #[.agg (bA (k ++ d)), .agg (bA g)] W (Yes W) := by
  have HP := Lib.hid hp
  have HA := Lib.hid ha
  have HK := Lib.hid hk
  have HD := Lib.hid hd
  have HG := Lib.hid hg
  have HL : Hid ((k ++ d).length = 64) := by show _ = _; rw [List.length_append, hk, hd]
  have l0 : RowB ((W.alloc (.cells (bA (k ++ d)) 26)).alloc (.cells (bA g) 24)) W.heap.size 26 (k ++ d) := heap_alloc2_old W _ _
  have g0 : RowB ((W.alloc (.cells (bA (k ++ d)) 26)).alloc (.cells (bA g) 24)) (W.heap.size + 1) 24 g := heap_alloc2_new W _ _
  have HB0 : Hid (Below W.heap.size W ((W.alloc (.cells (bA (k ++ d)) 26)).alloc (.cells (bA g) 24))) := ((Below.refl _ _).alloc (Nat.le_refl _) _).alloc (by simp) _
  have HL0 := Lib.hid l0
  have HG0 := Lib.hid g0
  have la := l0.ldLeaf HL.out
  clear hp ha hk hd hg l0 g0
  go_enter Try.func6, Try.ntmps6
  go_wp2_with fail
  refine (HP.out.leaf k d _ HK.out HD.out).mono ?_
  rintro e w1 ⟨A1, c1, rfl, _, hc1, hA1, hb⟩
  have HB1 := Lib.hid (keeps HB0.out hb)
  have HL1 := Lib.hid (HL0.out.below hb)
  have HG1 := Lib.hid (HG0.out.below hb)
  clear hb HB0 HL0 HG0 la
  go_wp2_with fail
  refine (HP.out.ofLeaf k d HK.out HD.out A1 c1 w1 hA1 hc1).mono ?_
  rintro e w2 ⟨rfl, hb⟩
  have HB2 := Lib.hid (keeps HB1.out hb)
  have HL2 := Lib.hid (HL1.out.below hb)
  have HG2 := Lib.hid (HG1.out.below hb)
  have st := fun w => stA_new (t := 26) w (bA z64) (bA (k ++ d)) (by rw [bA_size, HL.out]; exact infoLeaf) (by rw [bA_size, bA_size, HL.out]; rfl) (bA_one _)
  obtain ⟨w3, hw3⟩ : ∃ x, x = w2.alloc (.cells (bA (k ++ d)) 26) := ⟨_, rfl⟩
  have B23 : Below w2.heap.size w2 w3 := by rw [hw3]; exact (Below.refl _ _).alloc (Nat.le_refl _) _
  have hm3 : RowB w3 w2.heap.size 26 (k ++ d) := by rw [hw3]; exact heap_alloc_last w2 _
  have HB3 := Lib.hid (keeps HB2.out B23)
  have HL3 := Lib.hid (HL2.out.below B23)
  have HG3 := Lib.hid (HG2.out.below B23)
  have HM3 := Lib.hid hm3
  have lb := (HL3.out.parts HK.out HD.out).2
  have lc := HG3.out.ldDig HG.out
  rw [hw3] at lb lc
  have HW3 := Lib.hid hw3
  clear hb hA1 hc1 HB1 HL1 HG1 HB2 HL2 HG2 B23 hm3 hw3
  go_wp2_with fail
  rw [← HW3.out]
  clear lb lc st HW3
  refine (HP.out.node d g _ HD.out HG.out).mono ?_
  rintro e w4 ⟨A2, c2, rfl, _, hc2, hA2, hb⟩
  have HB4 := Lib.hid (keeps HB3.out hb)
  have HL4 := Lib.hid (HL3.out.below hb)
  have HG4 := Lib.hid (HG3.out.below hb)
  have HM4 := Lib.hid (HM3.out.below hb)
  clear hb HB3 HL3 HG3 HM3
  go_wp2_with fail
  refine (HP.out.ofNode d g HD.out HG.out A2 c2 w4 hA2 hc2).mono ?_
  rintro e w5 ⟨rfl, hb⟩
  have HB5 := Lib.hid (keeps HB4.out hb)
  have HL5 := Lib.hid (HL4.out.below hb)
  have HG5 := Lib.hid (HG4.out.below hb)
  have HM5 := Lib.hid (HM4.out.below hb)
  have s1 := fun w o => stA_old (t := 24) w o (bA z26) (bA d) (by rw [bA_size, HD.out]; exact info26) (by rw [bA_size, bA_size, HD.out]; rfl) (bA_one _)
  have s2 := fun w o => stA_two (t := 24) w o (bA z26) (bA g) (by rw [bA_size, HG.out]; exact info26) (by rw [bA_size, bA_size, HG.out]; rfl) (bA_one _)
  obtain ⟨w6, hw6⟩ : ∃ x, x = (w5.alloc (.cells (bA d) 24)).alloc (.cells (bA g) 24) := ⟨_, rfl⟩
  have B56 : Below w5.heap.size w5 w6 := by rw [hw6]; exact ((Below.refl _ _).alloc (Nat.le_refl _) _).alloc (by simp) _
  have hx6 : RowB w6 w5.heap.size 24 d := by rw [hw6]; exact heap_alloc2_old w5 _ _
  have hy6 : RowB w6 (w5.heap.size + 1) 24 g := by rw [hw6]; exact heap_alloc2_new w5 _ _
  have HB6 := Lib.hid (keeps HB5.out B56)
  have HL6 := Lib.hid (HL5.out.below B56)
  have HG6 := Lib.hid (HG5.out.below B56)
  have HM6 := Lib.hid (HM5.out.below B56)
  have HX6 := Lib.hid hx6
  have HY6 := Lib.hid hy6
  have la := HL6.out.ldLeaf HL.out
  rw [hw6] at la
  have HW6 := Lib.hid hw6
  clear hb hA2 hc2 HB4 HL4 HG4 HM4 HB5 HL5 HG5 HM5 B56 hx6 hy6 hw6
  go_wp2_with fail
  rw [← HW6.out]
  clear la s1 s2 HW6
  refine (HP.out.leaf k d _ HK.out HD.out).mono ?_
  rintro e w7 ⟨A3, c3, rfl, _, hc3, hA3, hb⟩
  have HB7 := Lib.hid (keeps HB6.out hb)
  have HL7 := Lib.hid (HL6.out.below hb)
  have HG7 := Lib.hid (HG6.out.below hb)
  have HM7 := Lib.hid (HM6.out.below hb)
  have HX7 := Lib.hid (HX6.out.below hb)
  have HY7 := Lib.hid (HY6.out.below hb)
  clear hb HB6 HL6 HG6 HM6 HX6 HY6
  go_wp2_with fail
  refine (HP.out.noNode k d HK.out HD.out A3 c3 w7 hA3 hc3).mono ?_
  rintro e w8 ⟨rfl, hb⟩
  have s1 := fun w o => stA_old (t := 24) w o (bA z26) (bA z26) (by rw [bA_size]; exact info26) (by rw [bA_size]) (bA_one _)
  have s2 := fun w o => stA_two (t := 24) w o (bA z26) (bA z26) (by rw [bA_size]; exact info26) (by rw [bA_size]) (bA_one _)
  obtain ⟨w9, hw9⟩ : ∃ x, x = (w8.alloc (.cells (bA z26) 24)).alloc (.cells (bA z26) 24) := ⟨_, rfl⟩
  have B89 : Below w8.heap.size w8 w9 := by rw [hw9]; exact ((Below.refl _ _).alloc (Nat.le_refl _) _).alloc (by simp) _
  have b79 := keeps hb B89
  have HB9 := Lib.hid (keeps HB7.out b79)
  have HL9 := Lib.hid (HL7.out.below b79)
  have HG9 := Lib.hid (HG7.out.below b79)
  have HM9 := Lib.hid (HM7.out.below b79)
  have HX9 := Lib.hid (HX7.out.below b79)
  have HY9 := Lib.hid (HY7.out.below b79)
  have HW9 := Lib.hid hw9
  clear hb hA3 hc3 HB7 HL7 HG7 HM7 HX7 HY7 B89 b79 hw9
  go_wp2_with fail
  rw [← HW9.out]
  clear s1 s2 HW9
  refine (HA.out w9).mono ?_
  rintro e wf ⟨rfl, hb⟩
  have HBf := Lib.hid (keeps HB9.out hb)
  have l1 := (HL9.out.below hb).ldLeaf HL.out
  have l2 := ((HL9.out.below hb).parts HK.out HD.out).2
  have l3 := (HG9.out.below hb).ldDig HG.out
  have l4 := (HM9.out.below hb).ldLeaf HL.out
  have l5 := (HX9.out.below hb).ldDig HD.out
  have l6 := (HY9.out.below hb).ldDig HG.out
  have q1 : ∀ x y w, eqA .eql 26 x y w (.agg (bA (k ++ d))) (.agg (bA (k ++ d))) = .ok (.value (.bool true)) w := fun x y w => by rw [eqLeaf _ _ HL.out HL.out, decide_eq_true rfl]
  have q2 : ∀ x y w, eqA .eql 24 x y w (.agg (bA d)) (.agg (bA d)) = .ok (.value (.bool true)) w := fun x y w => by rw [eqDig d d HD.out HD.out, decide_eq_true rfl]
  have q3 : ∀ x y w, eqA .eql 24 x y w (.agg (bA g)) (.agg (bA g)) = .ok (.value (.bool true)) w := fun x y w => by rw [eqDig g g HG.out HG.out, decide_eq_true rfl]
  clear hb HB9 HL9 HG9 HM9 HX9 HY9
  go_wp2_with fail
  go_ret
  exact ⟨rfl, HBf.out⟩
end Go.Proofs.Ytffgeoeoodogiaa
