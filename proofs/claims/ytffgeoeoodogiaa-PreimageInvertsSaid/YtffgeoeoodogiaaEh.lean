/- The walk of PreimageSplits. -/
import Derived.Test.YtffgeoeoodogiaaEf
import Derived.Test.YtffgeoeoodogiaaEd
import Derived.Test.YtffgeoeoodogiaaEe
namespace Go.Proofs.Ytffgeoeoodogiaa
open Go.RowKit

theorem part_append (a b : List UInt8) (ha : a.length = 32) (hb : b.length = 32) : ((a ++ b).drop 0).take 32 = a ∧ ((a ++ b).drop 32).take 32 = b := by
  constructor
  · rw [List.drop_zero, List.take_append_of_le_length (by omega), List.take_of_length_le (by omega)]
  · rw [List.drop_append, List.drop_of_length_le (by omega), ha, List.nil_append, Nat.sub_self, List.drop_zero, List.take_of_length_le (by omega)]
/-- The key and the digest of a leaf that lies in memory. -/
theorem RowB.parts {w : World} {b : Nat} {a d : List UInt8} (h : RowB w b 26 (a ++ d)) (ha : a.length = 32) (hd : d.length = 32) :
    ldA 23 w (.pointer (some ⟨b, 0, none⟩)) = .ok (.value (.agg (bA a))) w ∧ ldA 24 w (.pointer (some ⟨b, 32, none⟩)) = .ok (.value (.agg (bA d))) w := by
  obtain ⟨e1, e2⟩ := part_append a d ha hd
  have l1 := ldA_part (t := 23) h 0 Try.underlying23 (by rw [e1, ha]; exact infoKey)
  have l2 := ldA_part (t := 24) h 32 Try.underlying24 (by rw [e2, hd]; exact info26)
  rw [e1] at l1
  rw [e2] at l2
  exact ⟨l1, l2⟩
set_option maxHeartbeats 8000000 in
set_option maxRecDepth 100000 in
theorem splits_0 (hp : Pre) (ha : AliveC) (A : Option Addr) (c : Nat) (l : List UInt8) (W : World) (hA : BA W A l) (hc : l.length ≤ c) (hl : l.length ≤ maxLen) (hk : kindL l = 0) :
    Calls Try.prog 5 #[.slice A l.length c] W (Yes W) := by
  have hlen := kind01 (.inl hk)
  obtain ⟨p, hpe⟩ : ∃ p, p = partL l 1 := ⟨_, rfl⟩
  obtain ⟨q, hqe⟩ : ∃ q, q = partL l 33 := ⟨_, rfl⟩
  have hp1 : p.length = 32 := by rw [hpe]; exact part_len (by omega)
  have hq1 : q.length = 32 := by rw [hqe]; exact part_len (by omega)
  have HR := Lib.hid (rkind_c A c l W hA)
  have HL := Lib.hid (fun w h => hp.splitLeaf A c l w h hc hl)
  have HN := Lib.hid (fun w h => hp.splitNode A c l w h hc hl)
  have HP1 := Lib.hid (fun w h => part_c A c 1 l w h (by omega) (by omega))
  have HP2 := Lib.hid (fun w h => part_c A c 33 l w h (by omega) (by omega))
  rw [hk] at HR
  simp only [hk, if_pos, decide_true, show ¬ ((0 : Int) = 1) from by decide, if_false, decide_false, ← hpe, ← hqe] at HL HN HP1 HP2
  rw [hlen] at HL HN HR HP1 HP2 ⊢
  have HA := Lib.hid ha
  have HB := Lib.hid hA
  have HX := Lib.hid hp1
  have HY := Lib.hid hq1
  clear hk hp ha hA hc hl hlen hpe hqe hp1 hq1
  go_enter Try.func5, Try.ntmps5
  go_wp2_with fail
  refine HR.out.mono ?_
  rintro e w1 ⟨rfl, rfl⟩
  go_wp2_with fail
  refine (HL.out W HB.out).mono ?_
  rintro e w2 ⟨rfl, hb2⟩
  have HB2 := Lib.hid hb2
  have st := fun w => stA_new (t := 26) w (bA z64) (bA (p ++ q)) (by rw [bA_size, List.length_append, HX.out, HY.out]; exact infoLeaf) (by rw [bA_size, bA_size, List.length_append, HX.out, HY.out]; rfl) (bA_one _)
  clear hb2 HR
  go_wp2_with fail
  have HR2 := Lib.hid (RowB.alloc w2 (p ++ q) 26)
  have HB2' : Hid (Below W.heap.size W (w2.alloc (.cells (bA (p ++ q)) 26))) := HB2.out.alloc HB2.out.size _
  refine (HN.out _ (HB.out.below HB2'.out)).mono ?_
  rintro e w3 ⟨rfl, hb3⟩
  have HB3 := Lib.hid (keeps HB2'.out hb3)
  have HR3 := Lib.hid (HR2.out.below hb3)
  have s1 := fun w o => stA_old (t := 24) w o (bA z26) (bA z26) (by rw [bA_size]; exact info26) (by rw [bA_size]) (bA_one _)
  have s2 := fun w o => stA_two (t := 24) w o (bA z26) (bA z26) (by rw [bA_size]; exact info26) (by rw [bA_size]) (bA_one _)
  obtain ⟨w4, hw4⟩ : ∃ x, x = (w3.alloc (.cells (bA z26) 24)).alloc (.cells (bA z26) 24) := ⟨_, rfl⟩
  have B34 : Below w3.heap.size w3 w4 := by rw [hw4]; exact ((Below.refl _ _).alloc (Nat.le_refl _) _).alloc (by simp) _
  have hx4 : RowB w4 w3.heap.size 24 z26 := by rw [hw4]; exact heap_alloc2_old w3 _ _
  have hy4 : RowB w4 (w3.heap.size + 1) 24 z26 := by rw [hw4]; exact heap_alloc2_new w3 _ _
  have HB4 := Lib.hid (keeps HB3.out B34)
  have HR4 := Lib.hid (HR3.out.below B34)
  have HW4 := Lib.hid hw4
  have HX4 := Lib.hid hx4
  have HY4 := Lib.hid hy4
  have la := hx4.ldDig rfl
  have lb := hy4.ldDig rfl
  rw [hw4] at la lb
  have z := fun w => (show bldA 24 w #[] = .ok (.value (.agg (bA z26))) w by kernel_rfl)
  have n1 : ∀ x y w, eqA .neq 24 x y w (.agg (bA z26)) (.agg (bA z26)) = .ok (.value (.bool false)) w := fun x y w => by rw [neDig z26 z26 rfl rfl, decide_eq_true rfl]; rfl
  clear hw4 B34 hx4 hy4 hb3 HB2 HB2' HR2 HB3 HR3 st
  go_wp2_with fail
  rw [← HW4.out]
  clear la lb s1 s2
  have LK : ∀ x : Later w4, ldA 23 x.w (.pointer (some ⟨w2.heap.size, 0, none⟩)) = .ok (.value (.agg (bA p))) x.w := fun x => ((HR4.out.below x.h).parts HX.out HY.out).1
  have LV : ∀ x : Later w4, ldA 24 x.w (.pointer (some ⟨w2.heap.size, 32, none⟩)) = .ok (.value (.agg (bA q))) x.w := fun x => ((HR4.out.below x.h).parts HX.out HY.out).2
  have C1 : Hid (∀ x : Later w4, Calls Try.prog 21 #[.slice A 65 c, .int .i64 1] x.w fun e w'' => e = .returned (.agg (bA p)) ∧ ∃ y : Later w4, w'' = y.w) := fun x => Later.call (HP1.out x.w (HB.out.below (keeps HB4.out x.h)))
  have C2 : Hid (∀ x : Later w4, Calls Try.prog 21 #[.slice A 65 c, .int .i64 33] x.w fun e w'' => e = .returned (.agg (bA q)) ∧ ∃ y : Later w4, w'' = y.w) := fun x => Later.call (HP2.out x.w (HB.out.below (keeps HB4.out x.h)))
  have nk : ∀ x y w, eqA .neq 23 x y w (.agg (bA p)) (.agg (bA p)) = .ok (.value (.bool false)) w := fun x y w => by rw [neKey p p HX.out HX.out, decide_eq_true rfl]; rfl
  have nq : ∀ x y w, eqA .neq 24 x y w (.agg (bA q)) (.agg (bA q)) = .ok (.value (.bool false)) w := fun x y w => by rw [neDig q q HY.out HY.out, decide_eq_true rfl]; rfl
  refine wp_region_later (by kernel_rfl) (by kernel_rfl) ?_
  iterate 5 go_big_quiet_step (fail)
  go_big_quiet_step ((go_at_call 21; exact C1.out _))
  iterate 5 go_big_quiet_step (fail)
  go_big_quiet_step ((go_at_call 21; exact C2.out _))
  iterate 3 go_big_quiet_step (fail)
  refine wpQuiet_nil ?_
  rintro _ ⟨x, rfl⟩
  have HB5 := Lib.hid (keeps HB4.out x.h)
  clear LK LV C1 C2 nk nq z n1
  go_wp2_with fail
  have CA : Hid (∀ y : Later x.w, Calls Try.prog 8 #[] y.w fun e w'' => e = .returned (.bool true) ∧ ∃ z : Later x.w, w'' = z.w) := fun y => Later.call (HA.out y.w)
  refine wp_region_later (by kernel_rfl) (by kernel_rfl) ?_
  repeat (go_big_quiet_step ((go_at_call 8; exact CA.out _)))
  refine wpQuiet_nil ?_
  rintro _ ⟨y, rfl⟩
  have HB6 := Lib.hid (keeps HB5.out y.h)
  go_wp2_with fail
  go_ret
  exact ⟨rfl, HB6.out⟩
set_option maxHeartbeats 8000000 in
set_option maxRecDepth 100000 in
theorem splits_1 (hp : Pre) (ha : AliveC) (A : Option Addr) (c : Nat) (l : List UInt8) (W : World) (hA : BA W A l) (hc : l.length ≤ c) (hl : l.length ≤ maxLen) (hk : kindL l = 1) :
    Calls Try.prog 5 #[.slice A l.length c] W (Yes W) := by
  have hlen := kind01 (.inr hk)
  obtain ⟨p, hpe⟩ : ∃ p, p = partL l 1 := ⟨_, rfl⟩
  obtain ⟨q, hqe⟩ : ∃ q, q = partL l 33 := ⟨_, rfl⟩
  have hp1 : p.length = 32 := by rw [hpe]; exact part_len (by omega)
  have hq1 : q.length = 32 := by rw [hqe]; exact part_len (by omega)
  have HR := Lib.hid (rkind_c A c l W hA)
  have HL := Lib.hid (fun w h => hp.splitLeaf A c l w h hc hl)
  have HN := Lib.hid (fun w h => hp.splitNode A c l w h hc hl)
  have HP1 := Lib.hid (fun w h => part_c A c 1 l w h (by omega) (by omega))
  have HP2 := Lib.hid (fun w h => part_c A c 33 l w h (by omega) (by omega))
  rw [hk] at HR
  simp only [hk, if_pos, decide_true, show ¬ ((1 : Int) = 0) from by decide, if_false, decide_false, ← hpe, ← hqe] at HL HN HP1 HP2
  rw [hlen] at HL HN HR HP1 HP2 ⊢
  have HA := Lib.hid ha
  have HB := Lib.hid hA
  have HX := Lib.hid hp1
  have HY := Lib.hid hq1
  clear hk hp ha hA hc hl hlen hpe hqe hp1 hq1
  go_enter Try.func5, Try.ntmps5
  go_wp2_with fail
  refine HR.out.mono ?_
  rintro e w1 ⟨rfl, rfl⟩
  go_wp2_with fail
  refine (HL.out W HB.out).mono ?_
  rintro e w2 ⟨rfl, hb2⟩
  have HB2 := Lib.hid hb2
  have st := fun w => stA_new (t := 26) w (bA z64) (bA z64) (by rw [bA_size]; exact infoLeaf) (by rw [bA_size]) (bA_one _)
  clear hb2 HR
  go_wp2_with fail
  have HR2 := Lib.hid (RowB.alloc w2 z64 26)
  have HB2' : Hid (Below W.heap.size W (w2.alloc (.cells (bA z64) 26))) := HB2.out.alloc HB2.out.size _
  refine (HN.out _ (HB.out.below HB2'.out)).mono ?_
  rintro e w3 ⟨rfl, hb3⟩
  have HB3 := Lib.hid (keeps HB2'.out hb3)
  have HR3 := Lib.hid (HR2.out.below hb3)
  have s1 := fun w o => stA_old (t := 24) w o (bA z26) (bA p) (by rw [bA_size, HX.out]; exact info26) (by rw [bA_size, bA_size, HX.out]; rfl) (bA_one _)
  have s2 := fun w o => stA_two (t := 24) w o (bA z26) (bA q) (by rw [bA_size, HY.out]; exact info26) (by rw [bA_size, bA_size, HY.out]; rfl) (bA_one _)
  obtain ⟨w4, hw4⟩ : ∃ x, x = (w3.alloc (.cells (bA p) 24)).alloc (.cells (bA q) 24) := ⟨_, rfl⟩
  have B34 : Below w3.heap.size w3 w4 := by rw [hw4]; exact ((Below.refl _ _).alloc (Nat.le_refl _) _).alloc (by simp) _
  have hx4 : RowB w4 w3.heap.size 24 p := by rw [hw4]; exact heap_alloc2_old w3 _ _
  have hy4 : RowB w4 (w3.heap.size + 1) 24 q := by rw [hw4]; exact heap_alloc2_new w3 _ _
  have HB4 := Lib.hid (keeps HB3.out B34)
  have HR4 := Lib.hid (HR3.out.below B34)
  have HW4 := Lib.hid hw4
  have HX4 := Lib.hid hx4
  have HY4 := Lib.hid hy4
  have la := (HR4.out).ldLeaf rfl
  rw [hw4] at la
  have z := bldLeaf_none
  have n1 : ∀ x y w, eqA .neq 26 x y w (.agg (bA z64)) (.agg (bA z64)) = .ok (.value (.bool false)) w := fun x y w => by rw [neLeaf z64 z64 rfl rfl, decide_eq_true rfl]; rfl
  clear hw4 B34 hx4 hy4 hb3 HB2 HB2' HR2 HB3 HR3 st
  go_wp2_with fail
  rw [← HW4.out]
  clear la s1 s2 z n1
  refine wp_region_later (by kernel_rfl) (by kernel_rfl) ?_
  repeat (go_big_quiet_step (fail))
  refine wpQuiet_nil ?_
  rintro _ ⟨x, rfl⟩
  go_wp2_with fail
  have LP : ∀ y : Later x.w, ldA 24 y.w (.pointer (some ⟨w3.heap.size, 0, none⟩)) = .ok (.value (.agg (bA p))) y.w := fun y => ((HX4.out.below x.h).below y.h).ldDig HX.out
  have LQ : ∀ y : Later x.w, ldA 24 y.w (.pointer (some ⟨w3.heap.size + 1, 0, none⟩)) = .ok (.value (.agg (bA q))) y.w := fun y => ((HY4.out.below x.h).below y.h).ldDig HY.out
  have HB5 := Lib.hid (keeps HB4.out x.h)
  have C1 : Hid (∀ y : Later x.w, Calls Try.prog 21 #[.slice A 65 c, .int .i64 1] y.w fun e w'' => e = .returned (.agg (bA p)) ∧ ∃ z : Later x.w, w'' = z.w) := fun y => Later.call (HP1.out y.w (HB.out.below (keeps HB5.out y.h)))
  have C2 : Hid (∀ y : Later x.w, Calls Try.prog 21 #[.slice A 65 c, .int .i64 33] y.w fun e w'' => e = .returned (.agg (bA q)) ∧ ∃ z : Later x.w, w'' = z.w) := fun y => Later.call (HP2.out y.w (HB.out.below (keeps HB5.out y.h)))
  have CA : Hid (∀ y : Later x.w, Calls Try.prog 8 #[] y.w fun e w'' => e = .returned (.bool true) ∧ ∃ z : Later x.w, w'' = z.w) := fun y => Later.call (HA.out y.w)
  have ep : ∀ x y w, eqA .eql 24 x y w (.agg (bA p)) (.agg (bA p)) = .ok (.value (.bool true)) w := fun x y w => by rw [eqDig p p HX.out HX.out, decide_eq_true rfl]
  have eq : ∀ x y w, eqA .eql 24 x y w (.agg (bA q)) (.agg (bA q)) = .ok (.value (.bool true)) w := fun x y w => by rw [eqDig q q HY.out HY.out, decide_eq_true rfl]
  refine wp_region_later (by kernel_rfl) (by kernel_rfl) ?_
  go_big_quiet_step ((go_at_call 8; exact CA.out _))
  iterate 6 go_big_quiet_step (fail)
  go_big_quiet_step ((go_at_call 21; exact C1.out _))
  iterate 4 go_big_quiet_step (fail)
  go_big_quiet_step ((go_at_call 21; exact C2.out _))
  iterate 5 go_big_quiet_step (fail)
  refine wpQuiet_nil ?_
  rintro _ ⟨y, rfl⟩
  have HB6 := Lib.hid (keeps HB5.out y.h)
  clear LP LQ C1 C2 CA ep eq
  go_wp2_with fail
  go_ret
  exact ⟨rfl, HB6.out⟩
set_option maxHeartbeats 8000000 in
set_option maxRecDepth 100000 in
theorem splits_n (hp : Pre) (ha : AliveC) (A : Option Addr) (c : Nat) (l : List UInt8) (W : World) (hA : BA W A l) (hc : l.length ≤ c) (hl : l.length ≤ maxLen) (hk0 : kindL l ≠ 0) (hk1 : kindL l ≠ 1) :
    Calls Try.prog 5 #[.slice A l.length c] W (Yes W) := by
  obtain ⟨K, hK⟩ : ∃ K, K = kindL l := ⟨_, rfl⟩
  have HR := Lib.hid (rkind_c A c l W hA)
  have HL := Lib.hid (fun w h => hp.splitLeaf A c l w h hc hl)
  have HN := Lib.hid (fun w h => hp.splitNode A c l w h hc hl)
  rw [← hK] at HR
  simp only [if_neg hk0, if_neg hk1, decide_eq_false hk0, decide_eq_false hk1] at HL HN
  rw [← hK] at hk0 hk1
  have b0 : (K == 0) = false := by rw [beq_eq_false_iff_ne]; exact hk0
  have b1 : (K == 1) = false := by rw [beq_eq_false_iff_ne]; exact hk1
  have HA := Lib.hid ha
  have HB := Lib.hid hA
  clear hK hk0 hk1 hp ha hA hc hl
  go_enter Try.func5, Try.ntmps5
  go_wp2_with fail
  refine HR.out.mono ?_
  rintro e w1 ⟨rfl, rfl⟩
  go_wp2_with fail
  refine (HL.out W HB.out).mono ?_
  rintro e w2 ⟨rfl, hb2⟩
  have HB2 := Lib.hid hb2
  have st := fun w => stA_new (t := 26) w (bA z64) (bA z64) (by rw [bA_size]; exact infoLeaf) (by rw [bA_size]) (bA_one _)
  clear hb2 HR
  go_wp2_with fail
  have HR2 := Lib.hid (RowB.alloc w2 z64 26)
  have HB2' : Hid (Below W.heap.size W (w2.alloc (.cells (bA z64) 26))) := HB2.out.alloc HB2.out.size _
  refine (HN.out _ (HB.out.below HB2'.out)).mono ?_
  rintro e w3 ⟨rfl, hb3⟩
  have HB3 := Lib.hid (keeps HB2'.out hb3)
  have HR3 := Lib.hid (HR2.out.below hb3)
  have s1 := fun w o => stA_old (t := 24) w o (bA z26) (bA z26) (by rw [bA_size]; exact info26) (by rw [bA_size]) (bA_one _)
  have s2 := fun w o => stA_two (t := 24) w o (bA z26) (bA z26) (by rw [bA_size]; exact info26) (by rw [bA_size]) (bA_one _)
  obtain ⟨w4, hw4⟩ : ∃ x, x = (w3.alloc (.cells (bA z26) 24)).alloc (.cells (bA z26) 24) := ⟨_, rfl⟩
  have B34 : Below w3.heap.size w3 w4 := by rw [hw4]; exact ((Below.refl _ _).alloc (Nat.le_refl _) _).alloc (by simp) _
  have hx4 : RowB w4 w3.heap.size 24 z26 := by rw [hw4]; exact heap_alloc2_old w3 _ _
  have hy4 : RowB w4 (w3.heap.size + 1) 24 z26 := by rw [hw4]; exact heap_alloc2_new w3 _ _
  have HB4 := Lib.hid (keeps HB3.out B34)
  have HR4 := Lib.hid (HR3.out.below B34)
  have HW4 := Lib.hid hw4
  have HX4 := Lib.hid hx4
  have HY4 := Lib.hid hy4
  have la := hx4.ldDig rfl
  have lb := hy4.ldDig rfl
  rw [hw4] at la lb
  have z := fun w => (show bldA 24 w #[] = .ok (.value (.agg (bA z26))) w by kernel_rfl)
  have n1 : ∀ x y w, eqA .neq 24 x y w (.agg (bA z26)) (.agg (bA z26)) = .ok (.value (.bool false)) w := fun x y w => by rw [neDig z26 z26 rfl rfl, decide_eq_true rfl]; rfl
  have lc := (HR4.out).ldLeaf rfl
  rw [hw4] at lc
  have zl := bldLeaf_none
  have n2 : ∀ x y w, eqA .neq 26 x y w (.agg (bA z64)) (.agg (bA z64)) = .ok (.value (.bool false)) w := fun x y w => by rw [neLeaf z64 z64 rfl rfl, decide_eq_true rfl]; rfl
  clear hw4 B34 hx4 hy4 hb3 HB2 HB2' HR2 HB3 HR3 st
  go_wp2_with fail
  rw [← HW4.out]
  clear la lb lc s1 s2 z zl n1 n2
  refine wp_region_later (by kernel_rfl) (by kernel_rfl) ?_
  repeat (go_big_quiet_step (fail))
  refine wpQuiet_nil ?_
  rintro _ ⟨x, rfl⟩
  have HB5 := Lib.hid (keeps HB4.out x.h)
  go_wp2_with fail
  have CA : Hid (∀ y : Later x.w, Calls Try.prog 8 #[] y.w fun e w'' => e = .returned (.bool true) ∧ ∃ z : Later x.w, w'' = z.w) := fun y => Later.call (HA.out y.w)
  refine wp_region_later (by kernel_rfl) (by kernel_rfl) ?_
  repeat (go_big_quiet_step ((go_at_call 8; exact CA.out _)))
  refine wpQuiet_nil ?_
  rintro _ ⟨y, rfl⟩
  have HB6 := Lib.hid (keeps HB5.out y.h)
  go_wp2_with fail
  go_ret
  exact ⟨rfl, HB6.out⟩
theorem splits_w (hp : Pre) (ha : AliveC) (A : Option Addr) (c : Nat) (l : List UInt8) (W : World) (hA : BA W A l) (hc : l.length ≤ c) (hl : l.length ≤ maxLen) :
    Calls Try.prog 5 #[.slice A l.length c] W (Yes W) := by
  rcases Classical.em (kindL l = 0) with h0 | h0
  · exact splits_0 hp ha A c l W hA hc hl h0
  · rcases Classical.em (kindL l = 1) with h1 | h1
    · exact splits_1 hp ha A c l W hA hc hl h1
    · exact splits_n hp ha A c l W hA hc hl h0 h1
end Go.Proofs.Ytffgeoeoodogiaa
