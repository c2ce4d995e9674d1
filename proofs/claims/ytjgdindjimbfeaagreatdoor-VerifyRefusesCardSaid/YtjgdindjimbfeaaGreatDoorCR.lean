import Derived.Test.YtjgdindjimbfeaaGreatDoorCP
import Derived.Test.YtjgdindjimbfeaaGreatDoorMR
import Derived.Test.YtjgdindjimbfeaaGreatDoorTG
import Derived.Test.YtjgdindjimbfeaaGreatDoorAA
import Derived.Shelf.RegionOpenPlain
import Derived.WalkKit
import Derived.Deep.LoopGhost
import Derived.Lib.Walk
import Derived.Sort.WalkB12
import Derived.Lib.SlicesMore
import Derived.Test.YtjgdindjimbfeaaGreatDoorCA
import Derived.Test.YtjgdindjimbfeaaGreatDoorSl
namespace Go.Proofs.YtjgdindjimbfeaaGreatDoor
set_option linter.unusedSimpArgs false
set_option linter.unusedVariables false
set_option maxHeartbeats 16000000
set_option maxRecDepth 100000
section
open Go.RowKit Go.Shelf
attribute [local go_sem] Oper.semAt_some
structure St16 (pb hb kb sb b : Nat) (p : Pf) (s : Value) (k : List UInt8) (A : Option Addr) (c : Nat) (X : List (List UInt8)) (Y : World) : Prop where
 p : PfAt Y pb p s
 h : Y.heap[hb]? = some (.cells #[ptr b] 29 (0, 0))
 k : Y.heap[kb]? = some (.cells (bA k) 48 (0, 0))
 s : Y.heap[sb]? = some (.cells #[.slice A X.length c] 51 (0, 0))
 ds : DS Y A X
 v : Vars Y
def E16 (B : Nat) (pF : Nat → List UInt8) (n : Int) (i : Nat) (args : Array Value) (O _H : Nat → Prop) (X : World) : Prop :=
 ∃ A c, args = #[.slice A (pF i).length c, .agg (bA (digL n (pF i)))] ∧ (pF i).length ≤ c ∧ BA X A (pF i) ∧ ∀ a, A = some a → B ≤ a.block ∧ a.block < X.heap.size ∧ ¬ O a.block ∧ ∃ cs, X.heap[a.block]? = some (.cells cs 5 (0, 0))
structure It16 (w : World) (b rb yb bq dq l0 : Nat) (n : Int) (m : Nat) (pF : Nat → List UInt8) (Os : Nat → Prop) (J : Bool → List Nat → (Nat → Prop) → World → Prop) (j : Nat) (O : Nat → Prop) (X : World) : Prop where
 hs : Hs X b n (m + j + 1)
 y : X.heap[yb]? = some (.cells #[.func (.yield l0) #[] #[]] 235 (0, 0))
 d : X.heap[dq]? = some (.cells (bA (digL n (pF j))) 47 (0, 0))
 a : ∃ A c, X.heap[bq]? = some (.cells #[.slice A (pF j).length c] 22 (0, 0)) ∧ BA X A (pF j) ∧ (pF j).length ≤ c ∧ ∀ a, A = some a → w.heap.size ≤ a.block ∧ a.block < X.heap.size ∧ ¬ Os a.block ∧ ¬ O a.block ∧ ∃ cs, X.heap[a.block]? = some (.cells cs 5 (0, 0))
 j : J true (List.range j) (fun i => Os i ∨ O i) X
 kp : Keep (fun i => i = b ∨ i = rb) w X
theorem It16.step {w : World} {b rb yb bq dq l0 : Nat} {n : Int} {m : Nat} {pF : Nat → List UInt8} {Os : Nat → Prop} {J : Bool → List Nat → (Nat → Prop) → World → Prop} {j : Nat} {O O' L : Nat → Prop} {X Y : World} (h : It16 w b rb yb bq dq l0 n m pF Os J j O X) (hk : Keep L X Y) (hb : ¬ L b) (hy : ¬ L yb) (hq : ¬ L bq) (hd : ¬ L dq)
  (hL : ∀ i, L i → w.heap.size ≤ i ∧ ∀ cs, X.heap[i]? = some (.cells cs 5 (0, 0)) → O i) (hj : J true (List.range j) (fun i => Os i ∨ O' i) Y) (hO : ∀ i, O' i → O i ∨ X.heap.size ≤ i) : It16 w b rb yb bq dq l0 n m pF Os J j O' Y := by
 obtain ⟨A, c, h1, h2, h3, h4⟩ := h.a
 have hn : ∀ a, A = some a → ¬ L a.block := fun a ha hl => by
  obtain ⟨_, _, _, g4, cs, g5⟩ := h4 a ha
  exact g4 ((hL _ hl).2 cs g5)
 refine ⟨h.hs.keep hk hb, hk.heap h.y hy, hk.heap h.d hd, ⟨A, c, hk.heap h1 hq, fun i x hx => ?_, h3, fun a ha => ?_⟩, hj, h.kp.step hk fun i hi => .inr (hL i hi).1⟩
 ·obtain ⟨g, o, e, h5⟩ := h2 i x hx
  exact ⟨g, o, e, hk.cellAt h5 (show ¬ L g from hn _ e)⟩
 ·obtain ⟨g1, g2, g3, g4, cs, g5⟩ := h4 a ha
  exact ⟨g1, Nat.lt_of_lt_of_le g2 hk.size, g3, fun h => (hO _ h).elim g4 fun h => by omega, cs, hk.heap g5 (hn a ha)⟩
theorem steps_seq (w : World) (b rb pb hb kb sb : Nat) (n : Int) (m : Nat) (p : Pf) (s : Value) (k : List UInt8) (A : Option Addr) (c : Nat) (X : List (List UInt8)) (hst : ∀ Y, Keep (fun i => i = b ∨ i = rb) w Y → St16 pb hb kb sb b p s k A c X Y)
  (hH : Hs w b n m) (hrb : rb ≠ b) (hrw : rb < w.heap.size) (hm : m ≤ 900000) (hp : p.Ok) (hk : k.length = 32) (hkd : p.kind = 0 ∨ p.kind = 1) (D : Nat) (hD : p.dep = (D : Int)) (hD2 : D ≤ 256) (hX : X.length = D) (hX2 : ∀ x ∈ X, x.length = 32) (hc : D ≤ c) :
  SeqS Tryz.prog 155 #[.pointer (some ⟨pb, 0, none⟩), .pointer (some ⟨hb, 0, none⟩), .pointer (some ⟨sb, 0, none⟩), .pointer (some ⟨kb, 0, none⟩)] (E16 w.heap.size (preF n (endP p) X k D) n) (fun i => i = rb ∨ w.heap.size ≤ i) (fun i => i = b) (fun g Y => Hs Y b n (m + g.length)) (List.range (D + 1)) w := by
 intro n0 l0 J W hW hbear hround hJ0
 obtain ⟨W1, hW1⟩ : ∃ W1, W1 = W.alloc (.cells #[.func (.yield l0) #[] #[]] 235) := ⟨_, rfl⟩
 have hbW1 : Below W.heap.size W W1 := by rw [hW1]; exact Bt.one_below _ _
 have hy1 : W1.heap[W.heap.size]? = some (.cells #[.func (.yield l0) #[] #[]] 235 (0, 0)) := by rw [hW1]; exact heap_alloc_new W _
 have hKW : Keep (fun i => i = b ∨ i = rb) w W1 := (Keep.of_below hW).trans (Keep.of_below hbW1)
 have hS := hst W1 hKW
 have lp := hS.p.ld hp
 have HC := Lib.hid (pend_o p s W1 hp hkd)
 have HPL := Lib.hid (endP_len hp)
 have HBW : Hid (Below w.heap.size w W1) := hW.trans (hbW1.mono hW.size)
 have HBW1 := Lib.hid hbW1
 have HWS : Hid (w.heap.size ≤ W.heap.size) := hW.size
 have HJ0 := Lib.hid hJ0
 have HW1 := Lib.hid hW1
 have HY1 := Lib.hid hy1
 have HST := Lib.hid hst
 have HB := Lib.hid hbear
 have HR := Lib.hid hround
 have HHS := Lib.hid (hH.keep (Keep.of_below (L := fun _ => False) (hW.trans (hbW1.mono hW.size))) id)
 have HRB := Lib.hid hrb
 have HRW := Lib.hid hrw
 have HM := Lib.hid hm
 have HPO := Lib.hid hp
 have HK := Lib.hid hk
 have HD := Lib.hid hD
 have HD2 := Lib.hid hD2
 have HXL := Lib.hid hX
 have HX2 := Lib.hid hX2
 have HCC := Lib.hid hc
 have HBL : Hid (b < w.heap.size) := lt_of_heap hH
 rw [hW1] at lp
 clear hW hbW1 hW1 hy1 hKW hS hst hbear hround hJ0 hH hrb hrw hm hp hk hkd hD hD2 hX hX2 hc
 refine callsIn_of_wp_marks Tryz.func155 rfl trivial ?_ rfl
 simp only [Tryz.ntmps155, List.size_toArray, List.length_cons, List.length_nil, Nat.reduceAdd, Nat.reduceSub, Array.replicate_succ, Array.replicate_zero, List.push_toArray, List.append_toArray, List.nil_append, List.cons_append]
 gi_wp2
 rw [← HW1.out]
 refine ⟨trivial, fun h => (by cases h), (callsIn_wide.2 HC.out).mono ?_⟩
 rintro e w1 ⟨v, rfl, hO, hb1⟩
 obtain ⟨A1, c1, rfl, hc1, hA1, hf1⟩ := hO.opened
 obtain ⟨yb, hyb⟩ : ∃ yb, yb = W.heap.size := ⟨_, rfl⟩
 rw [← hyb]
 obtain ⟨bq, hbq⟩ : ∃ bq, bq = w1.heap.size := ⟨_, rfl⟩
 obtain ⟨w2, hw2⟩ : ∃ w2, w2 = w1.alloc (.cells #[.slice A1 (endP p).length c1] 22) := ⟨_, rfl⟩
 have hb2 : Below w1.heap.size w1 w2 := by rw [hw2]; exact Bt.one_below _ _
 have hq2 : w2.heap[bq]? = some (.cells #[.slice A1 (endP p).length c1] 22 (0, 0)) := by rw [hw2, hbq]; exact heap_alloc_new _ _
 have hb12 : Below W1.heap.size W1 w2 := hb1.trans (hb2.mono hb1.size)
 have hbw2 : Below w.heap.size w w2 := HBW.out.trans (hb12.mono HBW.out.size)
 have hS2 := HST.out w2 (Keep.of_below hbw2)
 have lh : w2.cell? ⟨hb, 0, none⟩ = some (ptr b) := by rw [cell_of_cells hS2.h]; rfl
 have lb : w2.cell? ⟨bq, 0, none⟩ = some (.slice A1 (endP p).length c1) := by rw [cell_of_cells hq2]; rfl
 have HH2 : Hid (Hs w2 b n m) := HHS.out.keep (Keep.of_below (L := fun _ => False) hb12) id
 have hA2 : BA w2 A1 (endP p) := hA1.below hb2
 have HC2 := Lib.hid (sum_hs b n m A1 (endP p) c1 w2 HH2.out (by have := HM.out; omega) hA2 hc1 (by have := HPL.out; omega) hS2.v)
 have HYS : Hid (w.heap.size ≤ yb ∧ yb < W1.heap.size ∧ W1.heap.size ≤ bq ∧ bq < w2.heap.size) := ⟨by rw [hyb]; exact HWS.out, by rw [hyb]; exact lt_of_heap HY1.out, by rw [hbq]; exact hb1.size, lt_of_heap hq2⟩
 have HY2 : Hid (w2.heap[yb]? = some (.cells #[.func (.yield l0) #[] #[]] 235 (0, 0))) := by show _ = _; rw [hyb, hb12.block _ (lt_of_heap HY1.out)]; exact HY1.out
 have HBQ2 := Lib.hid hq2
 have HA2 := Lib.hid hA2
 have HCL := Lib.hid hc1
 have HF2 : Hid (∀ a, A1 = some a → W1.heap.size ≤ a.block ∧ a.block < bq ∧ ∃ cs, w2.heap[a.block]? = some (.cells cs 5 (0, 0))) := fun a ha => ⟨(hf1 a ha).1, by rw [hbq]; exact (hf1 a ha).2.1, by obtain ⟨cs, h⟩ := (hf1 a ha).2.2; exact ⟨cs, by rw [hb2.block _ (hf1 a ha).2.1]; exact h⟩⟩
 have HBw2 := Lib.hid hbw2
 have HB12 := Lib.hid hb12
 have HW2 := Lib.hid hw2
 have HYBE := Lib.hid hyb
 have HBQE := Lib.hid hbq
 rw [hw2] at lh lb
 rw [hbq] at lb
 clear lp hyb hO hb1 hA1 hc1 hf1 hbq hw2 hb2 hq2 hb12 hbw2 hS2 hA2 HC HHS
 gi_wp2
 rw [← HW2.out]
 refine ⟨trivial, fun h => (by cases h), (callsIn_wide.2 HC2.out).mono ?_⟩
 rintro _ w3 ⟨rfl, hH3, hk3⟩
 have st1 : stA 47 (w3.alloc (.cells (bA z26) 47)) (.pointer (some ⟨w3.heap.size, 0, none⟩)) (.agg (bA (digL n (endP p)))) = .ok .skip (w3.alloc (.cells (bA (digL n (endP p))) 47)) := stA_new w3 _ _ (by rw [bA_size, dig_len]; exact info26) (by rw [bA_size, bA_size, dig_len]; rfl) (bA_one _)
 obtain ⟨dq, hdq⟩ : ∃ dq, dq = w3.heap.size := ⟨_, rfl⟩
 obtain ⟨w4, hw4⟩ : ∃ w4, w4 = w3.alloc (.cells (bA (digL n (endP p))) 47) := ⟨_, rfl⟩
 rw [← hw4] at st1
 have hb34 : Below w3.heap.size w3 w4 := by rw [hw4]; exact Bt.one_below _ _
 have hd4 : w4.heap[dq]? = some (.cells (bA (digL n (endP p))) 47 (0, 0)) := by rw [hw4, hdq]; exact heap_alloc_new _ _
 have hk24 : Keep (fun i => i = b) w2 w4 := hk3.trans (Keep.of_below hb34)
 have hKw4 : Keep (fun i => i = b ∨ i = rb) w w4 := (Keep.of_below HBw2.out).trans (hk24.mono fun _ h => .inl h)
 have hS4 := HST.out w4 hKw4
 have ls : w4.cell? ⟨sb, 0, none⟩ = some (.slice A X.length c) := by rw [cell_of_cells hS4.s]; rfl
 have HH4 : Hid (Hs w4 b n (m + 1)) := hH3.keep (Keep.of_below (L := fun _ => False) hb34) id
 have hys := HYS.out
 have hbl := HBL.out
 have HY4 : Hid (w4.heap[yb]? = some (.cells #[.func (.yield l0) #[] #[]] 235 (0, 0))) := hk24.heap HY2.out (by omega)
 have HBQ4 : Hid (w4.heap[bq]? = some (.cells #[.slice A1 (endP p).length c1] 22 (0, 0))) := hk24.heap HBQ2.out (by omega)
 have HA4 : Hid (BA w4 A1 (endP p)) := HH2.out.ba HA2.out hk24
 have HF4 : Hid (∀ a, A1 = some a → W1.heap.size ≤ a.block ∧ a.block < bq ∧ ∃ cs, w4.heap[a.block]? = some (.cells cs 5 (0, 0))) := fun a ha => by
  obtain ⟨g1, g2, cs, g3⟩ := HF2.out a ha
  exact ⟨g1, g2, cs, hk24.heap g3 (by omega)⟩
 have HD4 := Lib.hid hd4
 have HDQE := Lib.hid hdq
 have HKW4 := Lib.hid hKw4
 have HKWW : Hid (Keep (fun i => i = b) W w4) := (Keep.of_below HBW1.out).trans ((Keep.of_below HB12.out).trans hk24)
 have HQ4 : Hid (bq < dq ∧ dq < w4.heap.size) := ⟨by rw [hdq]; have := hk3.size; omega, lt_of_heap hd4⟩
 clear hH3 hk3 hdq hw4 hb34 hd4 hk24 hKw4 hS4 hys hbl HY2 HBQ2 HA2 HF2 HH2 HC2 HW2 lh lb
 gi_wp2
 clear st1
 refine ⟨trivial, fun h => (by cases h), (callsIn_wide.2 (backward16_c A X.length c w4)).mono ?_⟩
 rintro _ W0 ⟨rfl, hW0⟩
 clear ls
 gi_wp2
 rw [← hW0, ← HBQE.out, ← HDQE.out]
 obtain ⟨sq, hsq⟩ : ∃ sq, sq = w4.heap.size := ⟨_, rfl⟩
 rw [← hsq]
 have hb0 : Below w4.heap.size w4 W0 := by rw [hW0]; exact Bt.one_below _ _
 have hz0 : W0.heap.size = sq + 1 := by rw [hW0, hsq]; simp
 have hs0 : W0.heap[sq]? = some (.cells #[.slice A X.length c] 51 (0, 0)) := by rw [hW0, hsq]; exact heap_alloc_new _ _
 have hKW0 : Keep (fun i => i = b ∨ i = rb) w W0 := HKW4.out.trans (Keep.of_below hb0)
 have HSEQ := Lib.hid (back16_seq w b rb A c X (fun Y h => (HST.out Y h).ds) (by have := HXL.out; have := HD2.out; omega) W0 sq ⟨hs0, hKW0⟩).seqO
 obtain ⟨pF, hpF⟩ : ∃ pF, pF = preF n (endP p) X k D := ⟨_, rfl⟩
 rw [← hpF] at HR
 have HP0 : Hid (endP p = pF 0) := by show _ = _; rw [hpF]; rfl
 have HPF : Hid (∀ i, i < D → pF (i + 1) = stepN k (D - 1 - i) (digL n (pF i)) (X.getD (D - 1 - i) [])) := fun i _ => by rw [hpF]; rfl
 have HPS : Hid (∀ i, i ≤ D → (pF i).length ≤ 65) := fun i hi => by rw [hpF]; exact preF_len HPL.out HX2.out (by rw [HXL.out]; exact Nat.le_refl _) i hi
 rw [HP0.out] at HD4 HBQ4 HA4 HCL
 obtain ⟨B, hB⟩ : ∃ B, B = W0.heap.size := ⟨_, rfl⟩
 obtain ⟨Os, hOs⟩ : ∃ Os : Nat → Prop, Os = fun i => i = b ∨ i = yb ∨ i = bq ∨ i = dq ∨ (sq ≤ i ∧ i ≤ sq + 2) := ⟨_, rfl⟩
 have HOS : Hid (∀ i, Os i ↔ i = b ∨ i = yb ∨ i = bq ∨ i = dq ∨ (sq ≤ i ∧ i ≤ sq + 2)) := fun i => by rw [hOs]
 have HZ : Hid (B = sq + 1 ∧ W0.heap.size = B ∧ b < w.heap.size ∧ w.heap.size ≤ W.heap.size ∧ W.heap.size ≤ yb ∧ yb < bq ∧ bq < dq ∧ dq < sq) := ⟨by omega, hB.symm, HBL.out, HWS.out, Nat.le_of_eq HYBE.out.symm, by have := HYS.out; omega, HQ4.out.1, by rw [hsq]; exact HQ4.out.2⟩
 have HI0 : Hid (It16 w b rb yb bq dq l0 n m pF Os J 0 (fun _ => False) W0) := by
  refine ⟨HH4.out.keep (Keep.of_below (L := fun _ => False) hb0) id, by rw [hb0.block _ (lt_of_heap HY4.out)]; exact HY4.out, by rw [hb0.block _ (lt_of_heap HD4.out)]; exact HD4.out, ⟨A1, c1, by rw [hb0.block _ (lt_of_heap HBQ4.out)]; exact HBQ4.out, HA4.out.below hb0, HCL.out, fun a ha => ?_⟩, ?_, hKW0⟩
  ·obtain ⟨g1, g2, cs, g3⟩ := HF4.out a ha
   have hz := HZ.out
   have hys := HYS.out
   exact ⟨by omega, by have := lt_of_heap g3; have := hb0.size; omega, fun h => by rw [hOs] at h; omega, fun h => h, cs, by rw [hb0.block _ (lt_of_heap g3)]; exact g3⟩
  ·exact HB.out true [] _ W W0 _ HJ0.out (HKWW.out.trans (Keep.of_below hb0)) fun i h => by
    have hz := HZ.out
    rcases h with h | h
    ·rw [hOs] at h
     rcases h with h | h | h | h | h
     ·exact .inl h
     all_goals exact .inr (by omega)
    ·exact h.elim
 clear hW0 hb0 hz0 hs0 hKW0 hsq hpF hOs
 have hz := HZ.out
 rw [hB] at hz
 refine wpIn_rangeO (gf := 165) (lb := #[.pointer (some ⟨sq, 0, none⟩)]) rfl (enters_of Tryz.func165 (by kernel_rfl) rfl) HSEQ.out
  (fun i h1 h2 => ⟨.inr (.inr (by omega)), by omega⟩) (fun x args X h => by rw [h]; rfl)
  (fun pre O Y => It16 w b rb yb bq dq l0 n m pF Os J pre.length O Y)
  (fun cc pre O Y => cc = .ret ∧ J false (List.range pre.length) (fun i => Os i ∨ O i) Y ∧ Hs Y b n (m + pre.length))
  (fun g O Y Z O' h hO hs hk ho => h.step hk (fun h => by have := hO _ h; omega) (fun h => by have := hO _ h; omega) (fun h => by have := hO _ h; omega) (fun h => by have := hO _ h; omega) (fun i h => ⟨by have := hO _ h; omega, fun _ _ => h⟩) (HB.out true _ _ Y Z _ h.j (hk.mono fun i h => .inr h) (fun i h => h.elim (fun h => .inl (.inl h)) fun h => (ho i h).elim (fun h => .inl (.inr h)) .inr)) ho)
  (fun g O Y l o o' h hl hl2 hlo hc => h.step (keep_putObj (M := fun i => i = l) Y l o' rfl) (by omega) (by omega) (by omega) (by omega) (fun i e => ⟨by have e : i = l := e; omega, fun cs hcs => by have e : i = l := e; subst e; rw [hlo] at hcs; cases hcs; cases hc⟩) (HB.out true _ _ Y _ _ h.j (keep_putObj Y l o' (.inl ((HOS.out l).2 (by omega)))) fun i h => .inl h) (fun i h => .inl h))
  (fun cc g O Y Z O' ⟨h0, h1, h2⟩ hO hs hk ho => ⟨h0, HB.out false _ _ Y Z _ h1 (hk.mono fun i h => .inr h) (fun i h => h.elim (fun h => .inl (.inl h)) fun h => (ho i h).elim (fun h => .inl (.inr h)) .inr), h2.keep hk fun h => by have := hO _ h; omega⟩)
  (fun cc g O Y l o o' ⟨h0, h1, h2⟩ hl hl2 hlo hc => ⟨h0, HB.out false _ _ Y _ _ h1 (keep_putObj Y l o' (.inl ((HOS.out l).2 (by omega)))) fun i h => .inl h, h2.keep (keep_putObj (M := fun i => i = l) Y l o' rfl) (by omega)⟩)
  (fun Y hY => HI0.out.step (Keep.of_below (L := fun _ => False) hY) id id id id (fun _ h => h.elim) (HB.out true _ _ W0 Y _ HI0.out.j (Keep.of_below hY) fun i h => .inl h) fun _ h => h.elim) ?round ?done ?stop
 case stop =>
  rintro D0 cc pre O Y rfl hp ⟨rfl, h1, h2⟩ hd
  have HJX := Lib.hid h1
  have HDD := Lib.hid hd
  have HHX := Lib.hid h2
  have hpl : pre.length ≤ D := by
   obtain ⟨r, hr⟩ := hp
   have := congrArg List.length hr
   rw [List.length_append, backs16_len, HXL.out] at this
   omega
  have HPL2 := Lib.hid hpl
  rw [← hB] at HDD ⊢
  clear hB h1 h2 hd hp hz hpl
  gi_wp2
  refine ⟨by simp, .inl ⟨_, _, rfl, run_takeDeferred HDD.out, ?_⟩⟩
  refine ⟨_, results_none rfl _ _ _, ⟨_, rfl⟩, fun i => Os i ∨ O i, .inr ⟨List.range pre.length, ?_, HB.out false _ _ Y _ _ HJX.out (keep_putObj Y B _ (.inl ((HOS.out B).2 (by have := HZ.out; omega)))) fun i h => .inl h, ?_⟩⟩
  ·have h := List.take_append_drop pre.length (List.range (D + 1))
   rw [List.take_range, Nat.min_eq_left (by have := HPL2.out; omega)] at h
   exact ⟨_, h⟩
  ·have h : (Y.putObj B (.deferred none)).heap[b]? = Y.heap[b]? := World.putObj_heap_other (by have := HZ.out; omega)
   have h2 : Hs (Y.putObj B (.deferred none)) b n (m + pre.length) := h.trans HHX.out
   rwa [List.length_range]
 case done =>
  rintro D0 O Y rfl hI hd
  rw [backs16_len, HXL.out] at hI
  rw [← hB] at hd ⊢
  clear hz hB
  have hz := HZ.out
  obtain ⟨A2, c2, a1, a2, a3, a4⟩ := hI.a
  have hJY := HB.out true _ _ Y Y (fun i => (Os i ∧ i < Y.heap.size) ∨ False) hI.j (Keep.refl _ _) fun i h => h.elim (fun h => .inl (.inl h.1)) False.elim
  have hbY := lt_of_heap hI.hs
  have hyY := lt_of_heap hI.y
  have hqY := lt_of_heap a1
  have hdY := lt_of_heap hI.d
  have hBY := lt_of_heap hd
  obtain ⟨fn, tmps, assign, body, hy, hRD⟩ := HR.out (List.range D) D (fun i => Os i ∧ i < Y.heap.size) (fun _ => False) #[.slice A2 (pF D).length c2, .agg (bA (digL n (pF D)))] Y hJY (fun i h => ⟨(HOS.out i).2 (.inl h), by have e : i = b := h; rw [e]; exact hbY⟩)
   (fun i h => h.elim (fun h => ⟨by have := (HOS.out i).1 h.1; omega, h.2⟩) False.elim) (by rw [← List.range_succ]; exact List.prefix_rfl) ⟨A2, c2, rfl, a3, a2, fun a ha => ⟨(a4 a ha).1, (a4 a ha).2.1, fun h => (a4 a ha).2.2.1 h.1, (a4 a ha).2.2.2.2⟩⟩ (by
    rw [List.length_append, List.length_range, List.length_singleton]
    exact hI.hs)
  have ly : Y.cell? ⟨yb, 0, none⟩ = some (.func (.yield l0) #[] #[]) := by rw [cell_of_cells hI.y]; rfl
  have lb : Y.cell? ⟨bq, 0, none⟩ = some (.slice A2 (pF D).length c2) := by rw [cell_of_cells a1]; rfl
  have lq : ldA 47 Y (.pointer (some ⟨dq, 0, none⟩)) = .ok (.value (.agg (bA (digL n (pF D))))) Y := RowB.ldDig hI.d (dig_len _ _)
  have HRD := Lib.hid hRD
  have HDD := Lib.hid hd
  have HHY := Lib.hid hI.hs
  have HOB : Hid (Os b ∧ b < Y.heap.size ∧ Os B ∧ B < Y.heap.size) := ⟨(HOS.out b).2 (.inl rfl), hbY, (HOS.out B).2 (by omega), hBY⟩
  clear hI hd hz a1 a2 a3 a4 hJY hbY hyY hqY hdY hBY hRD
  gi_wp2
  refine ⟨fun h => (by cases h), HRD.out.mono ?_⟩
  rintro e V3 ⟨bb, rfl, hJ3, hk3⟩
  rw [← List.range_succ] at hJ3
  have HJ3 := Lib.hid hJ3
  have HD3 : Hid (V3.heap[B]? = some (.deferred (some []))) := hk3.heap HDD.out fun h => h.2 ⟨HOB.out.2.2.1, HOB.out.2.2.2⟩
  have HH3 : Hid (Hs V3 b n (m + D + 1)) := HHY.out.keep hk3 fun h => h.2 ⟨HOB.out.1, HOB.out.2.1⟩
  clear hJ3 hk3 HRD hy ly lb lq
  gi_wp2
  refine ⟨by simp, .inl ⟨_, _, rfl, run_takeDeferred HD3.out, ?_⟩⟩
  have h : (V3.putObj B (.deferred none)).heap[b]? = V3.heap[b]? := World.putObj_heap_other (by have := HZ.out; omega)
  have h2 : Hs (V3.putObj B (.deferred none)) b n (m + (List.range (D + 1)).length) := by rw [List.length_range]; exact h.trans HH3.out
  have h3 := HB.out bb _ _ V3 _ (fun i => Os i ∧ i < Y.heap.size) HJ3.out (keep_putObj V3 B (.deferred none) ⟨HOB.out.2.2.1, HOB.out.2.2.2⟩) fun i h => .inl h
  refine ⟨_, results_none rfl _ _ _, ⟨_, rfl⟩, fun i => Os i ∧ i < Y.heap.size, ?_⟩
  cases bb with
  | true => exact .inl ⟨h3, h2⟩
  | false => exact .inr ⟨_, List.prefix_rfl, h3, h2⟩
 case round =>
  rintro l pre ⟨x, t⟩ O args Y rfl ⟨r, hr⟩ hI hO hp rfl
  obtain ⟨hp1, hp2, hp3⟩ := backs16_pre hp
  dsimp only at hp2 hp3 ⊢
  have hxl : x.length = 32 := HX2.out x (List.mem_of_getElem? hp3)
  have hyB := lt_of_heap hr
  have st1 : stA 47 (Y.alloc (.cells (bA z26) 47)) (.pointer (some ⟨Y.heap.size, 0, none⟩)) (.agg (bA x)) = .ok .skip (Y.alloc (.cells (bA x) 47)) := stA_new Y _ _ (by rw [bA_size, hxl]; exact info26) (by rw [bA_size, bA_size, hxl]; rfl) (bA_one _)
  obtain ⟨u, hu⟩ : ∃ u, u = Y.heap.size := ⟨_, rfl⟩
  obtain ⟨Y1, hY1⟩ : ∃ Y1, Y1 = Y.alloc (.cells (bA x) 47) := ⟨_, rfl⟩
  have hb1 : Below Y.heap.size Y Y1 := by rw [hY1]; exact Bt.one_below _ _
  have hu1 : Y1.heap[u]? = some (.cells (bA x) 47 (0, 0)) := by rw [hY1, hu]; exact heap_alloc_new _ _
  rw [← hY1] at st1
  have HUY := Lib.hid hu
  have HIY := Lib.hid hI
  have HI1 : Hid (It16 w b rb yb bq dq l0 n m pF Os J pre.length O Y1) := hI.step (Keep.of_below (L := fun _ => False) hb1) id id id id (fun _ h => h.elim) (HB.out true _ _ Y Y1 _ hI.j (Keep.of_below hb1) fun i h => .inl h) fun _ h => .inl h
  have HP1 : Hid (pre.length < D) := by show _ < _; rw [← HXL.out]; exact hp1
  have HP2 : Hid (t = D - 1 - pre.length) := by show _ = _; rw [← HXL.out]; exact hp2
  have HP3 := Lib.hid hp3
  have HXL2 := Lib.hid hxl
  have HU1 := Lib.hid hu1
  have HBY := Lib.hid hb1
  have HO := Lib.hid hO
  have HYB : Hid (B + 1 < Y.heap.size) := by show _ < _; rw [hB]; exact hyB
  have HBE := Lib.hid hB
  clear hr hI hO hp hp1 hp2 hp3 hxl hyB hu hY1 hb1 hu1 hz hB
  gi_wp2
  clear st1
  refine ⟨Keeps2.of_keep (L := fun _ => False) (Keep.of_below HBY.out) id id, Keep.of_below HBY.out, HI1.out, fun V _ hkV hIV => ?_⟩
  rw [← HBE.out] at hkV ⊢
  have hz := HZ.out
  obtain ⟨A2, c2, a1, a2, a3, a4⟩ := hIV.a
  have huV : V.heap[u]? = some (.cells (bA x) 47 (0, 0)) := hkV.heap HU1.out (by have := HUY.out; have := HYB.out; show ¬ u = B + 1; omega)
  have hnu : ∀ a, A2 = some a → a.block ≠ u := fun a ha e => by
   obtain ⟨_, _, _, _, cs, g5⟩ := a4 a ha
   rw [e, huV] at g5
   injection g5 with g5
   injection g5 with _ g6
   exact absurd g6 (by decide)
  have hYV : Keep (fun i => i = B + 1) Y V := (Keep.of_below HBY.out).trans hkV
  have hVs := hYV.size
  have hYV2 : u < V.heap.size := lt_of_heap huV
  have hOB1 : Os (B + 1) := (HOS.out (B + 1)).2 (by omega)
  have hJV := HB.out true _ _ Y V (fun i => ((Os i ∨ O i) ∨ i = u) ∨ False) HIY.out.j (hYV.mono fun i h => by have e : i = B + 1 := h; rw [e]; exact .inl hOB1) fun i h => h.elim (fun h => h.elim .inl fun h => .inr (by rw [h]; exact Nat.le_of_eq HUY.out.symm)) False.elim
  have hpre : List.range pre.length ++ [pre.length] <+: List.range (D + 1) := by
   rw [← List.range_succ]
   have h := List.take_append_drop (pre.length + 1) (List.range (D + 1))
   rw [List.take_range, Nat.min_eq_left (by have := HP1.out; omega)] at h
   exact ⟨_, h⟩
  have hOsV : ∀ i, Os i → i < V.heap.size := fun i h => by
   have := (HOS.out i).1 h
   have := lt_of_heap hIV.hs
   have := HYB.out
   omega
  obtain ⟨fn, tmps, assign, body, hy, hRD⟩ := HR.out (List.range pre.length) pre.length (fun i => (Os i ∨ O i) ∨ i = u) (fun _ => False) #[.slice A2 (pF pre.length).length c2, .agg (bA (digL n (pF pre.length)))] V hJV (fun i h => .inl (.inl ((HOS.out i).2 (.inl h))))
   (fun i h => h.elim (fun h => h.elim (fun h => h.elim (fun h => ⟨by have := (HOS.out i).1 h; omega, hOsV i h⟩) fun h => by have := HO.out i h; rw [← HBE.out] at this; exact ⟨by omega, by omega⟩) fun h => ⟨by have := HUY.out; have := HYB.out; omega, by omega⟩) False.elim) hpre
   ⟨A2, c2, rfl, a3, a2, fun a ha => ⟨(a4 a ha).1, (a4 a ha).2.1, fun h => h.elim (fun h => h.elim (a4 a ha).2.2.1 (a4 a ha).2.2.2.1) (hnu a ha), (a4 a ha).2.2.2.2⟩⟩ (by
    rw [List.length_append, List.length_range, List.length_singleton]
    exact hIV.hs)
  have ly : V.cell? ⟨yb, 0, none⟩ = some (.func (.yield l0) #[] #[]) := by rw [cell_of_cells hIV.y]; rfl
  have lb : V.cell? ⟨bq, 0, none⟩ = some (.slice A2 (pF pre.length).length c2) := by rw [cell_of_cells a1]; rfl
  have lq : ldA 47 V (.pointer (some ⟨dq, 0, none⟩)) = .ok (.value (.agg (bA (digL n (pF pre.length))))) V := RowB.ldDig hIV.d (dig_len _ _)
  have HRD := Lib.hid hRD
  have HIV := Lib.hid hIV
  have HBQV := Lib.hid a1
  have HUV := Lib.hid huV
  have HOV : Hid (∀ i, O i → B + 2 ≤ i ∧ i < u) := fun i h => by have := HO.out i h; rw [← HBE.out] at this; rw [HUY.out]; exact this
  have HOSV := Lib.hid hOsV
  have HVS : Hid (u < V.heap.size ∧ B + 1 < u) := ⟨hYV2, by rw [HUY.out]; exact HYB.out⟩
  clear hkV hIV hz a1 a2 a3 a4 huV hnu hYV hVs hYV2 hOB1 hJV hpre hOsV hRD HO HU1 HBY HI1 HIY
  gi_wp2
  refine ⟨fun h => (by cases h), RoundIn.mono (RoundIn.any16 HRD.out) ?_⟩
  rintro e V3 ⟨bb, rfl, hJ3, hk3⟩
  rw [← List.range_succ] at hJ3
  have hz := HZ.out
  have hvs := HVS.out
  have hos := HOS.out
  have HJ3 := Lib.hid hJ3
  have HK3 := Lib.hid hk3
  have HH3 : Hid (Hs V3 b n (m + pre.length + 1)) := HIV.out.hs.keep hk3 fun h => h.2 (.inl (.inl ((hos b).2 (.inl rfl))))
  have HY3 : Hid (V3.heap[yb]? = some (.cells #[.func (.yield l0) #[] #[]] 235 (0, 0))) := hk3.heap HIV.out.y fun h => h.2 (.inl (.inl ((hos yb).2 (by omega))))
  have HBQ3 : Hid (V3.heap[bq]? = some (.cells #[.slice A2 (pF pre.length).length c2] 22 (0, 0))) := hk3.heap HBQV.out fun h => h.2 (.inl (.inl ((hos bq).2 (by omega))))
  have HDQ3 : Hid (V3.heap[dq]? = some (.cells (bA (digL n (pF pre.length))) 47 (0, 0))) := hk3.heap HIV.out.d fun h => h.2 (.inl (.inl ((hos dq).2 (by omega))))
  have HU3 : Hid (V3.heap[u]? = some (.cells (bA x) 47 (0, 0))) := hk3.heap HUV.out fun h => h.2 (.inr rfl)
  have HKW3 : Hid (Keep (fun i => i = b ∨ i = rb) w V3) := HIV.out.kp.step hk3 fun i hi => hi.1.elim (fun h => .inl (.inr h)) .inr
  have HVS3 : Hid (V.heap.size ≤ V3.heap.size) := hk3.size
  clear hJ3 hk3 HRD hy ly lb lq hz hvs hos
  cases bb with
  | false =>
   have hz := HZ.out
   have hos := HOS.out
   have HE1 : Hid (Keeps2 B V V3) := Keeps2.of_keep HK3.out (fun h => h.2 (.inl (.inl ((hos B).2 (by omega))))) fun h => h.2 (.inl (.inl ((hos (B + 1)).2 (by omega))))
   have HE2 : Hid (Keep (fun i => ((i = b ∨ i = rb ∨ w.heap.size ≤ i) ∧ i ≠ sq) ∧ ¬ O i) V V3) := HK3.out.mono fun i h => ⟨⟨.inr h.1, fun e => h.2 (.inl (.inl ((hos i).2 (by omega))))⟩, fun h2 => h.2 (.inl (.inr h2))⟩
   have HE3 : Hid (J false (List.range (pre.length + 1)) (fun i => Os i ∨ O i) V3) := HB.out false _ _ V3 V3 _ HJ3.out (Keep.refl _ _) fun i h => .inl (.inl h)
   clear hz hos
   gi_wp2
   exact ⟨HE1.out, HE2.out, rfl, by rw [List.length_append]; exact HE3.out, by rw [List.length_append]; exact HH3.out⟩
  | true =>
   have hz := HZ.out
   have hvs := HVS.out
   have hos := HOS.out
   obtain ⟨dg, hdg⟩ : ∃ dg, dg = digL n (pF pre.length) := ⟨_, rfl⟩
   have hdl : dg.length = 32 := by rw [hdg]; exact dig_len _ _
   obtain ⟨bt, hbt⟩ : ∃ bt, bt = bitK k (t : Int) := ⟨_, rfl⟩
   have hb01 : bt = 0 ∨ bt = 1 := by rw [hbt]; exact bitK_01 k t (by have := HP2.out; have := HD2.out; omega)
   have hstep : pF (pre.length + 1) = if bt = 0 then nodeL dg x else nodeL x dg := by
    rw [HPF.out _ HP1.out, ← HP2.out, ← hdg, List.getD_eq_getElem?_getD, HP3.out]
    unfold stepN
    rw [← hbt]
    rcases hb01 with h | h <;> rw [h] <;> rfl
   have LQ : Hid (∀ q, Below V3.heap.size V3 q → ldA 47 q (.pointer (some ⟨dq, 0, none⟩)) = .ok (.value (.agg (bA dg))) q) := fun q h => RowB.ldDig (by show q.heap[dq]? = _; rw [h.block _ (lt_of_heap HDQ3.out), hdg]; exact HDQ3.out) hdl
   have LX : Hid (∀ q, Below V3.heap.size V3 q → ldA 47 q (.pointer (some ⟨u, 0, none⟩)) = .ok (.value (.agg (bA x))) q) := fun q h => RowB.ldDig (by show q.heap[u]? = _; rw [h.block _ (lt_of_heap HU3.out)]; exact HU3.out) HXL2.out
   have LK : Hid (∀ q, Below V3.heap.size V3 q → ldA 48 q (.pointer (some ⟨kb, 0, none⟩)) = .ok (.value (.agg (bA k))) q) := fun q h => ldA_row (HST.out q (HKW3.out.trans (Keep.of_below h))).k Tryz.underlying48 (by rw [bA_size, HK.out]; exact infoKey)
   have HDG := Lib.hid hdg
   have HDL := Lib.hid hdl
   have HBTE := Lib.hid hbt
   have HB01 := Lib.hid hb01
   have HSTEP := Lib.hid hstep
   clear hz hvs hos hdg hdl hbt hb01 hstep
   rw [← HUY.out]
   gi_wp2
   refine round_heldT 6 (fun q => Below V3.heap.size V3 q) (fun ⟨_, _, h⟩ => h) (by rfl) (by kernel_rfl) ?_
   have hHeld : Below V3.heap.size V3 V3.drew := (Below.refl _ _).drew
   refine HeldT.take (i := 0) (oi := { dst := some 24, op := .load _ (.tmp 7), .. }) (v := ?_) rfl (by kernel_rfl) (by kernel_rfl) (by kernel_rfl) (by kernel_rfl) (fun _ _ _ h => h) (Or.inl ⟨by rfl, ?_⟩) (by assumption) ?_
   rotate_left 1
   ·intro v hSv
    have hv1 := LQ.out v hSv
    clear hSv
    go_simp
    try with_reducible rfl
   try simp only [Act.put, x_A, x_0, x_1]
   refine HeldT.take (i := 1) (oi := { dst := some 25, op := .load _ (.tmp 9), .. }) (v := ?_) rfl (by kernel_rfl) (by kernel_rfl) (by kernel_rfl) (by kernel_rfl) (fun _ _ _ h => h) (Or.inl ⟨by rfl, ?_⟩) (by assumption) ?_
   rotate_left 1
   ·intro v hSv
    have hv1 := LX.out v hSv
    clear hSv
    go_simp
    try with_reducible rfl
   try simp only [Act.put, x_A, x_0, x_1]
   refine HeldT.take (i := 2) (oi := { dst := some 26, op := .load _ (.tmp 4), .. }) (v := ?_) rfl (by kernel_rfl) (by kernel_rfl) (by kernel_rfl) (by kernel_rfl) (fun _ _ _ h => h) (Or.inl ⟨by rfl, ?_⟩) (by assumption) ?_
   rotate_left 1
   ·intro v hSv
    have hv1 := LK.out v hSv
    clear hSv
    go_simp
    try with_reducible rfl
   try simp only [Act.put, x_A, x_0, x_1]
   refine HeldT.take (i := 3) (oi := { dst := some 27, op := .move (.tmp 8), .. }) (v := ?_) rfl (by kernel_rfl) (by kernel_rfl) (by kernel_rfl) (by kernel_rfl) (fun _ _ _ h => h) (Or.inl ⟨by rfl, ?_⟩) (by assumption) ?_
   rotate_left 1
   ·intro v hSv
    clear hSv
    go_simp
    try with_reducible rfl
   try simp only [Act.put, x_A, x_0, x_1]
   refine HeldT.one (i := 4) (o := { dst := some 28, op := .call _, .. }) (by kernel_rfl) rfl rfl (fun K hK => ?_)
   go_wp2_with fail
   refine (pbitK_c k HK.out (t : Int) _).mono ?_
   rintro e y1 ⟨rfl, hb⟩
   have hq1 : Below V3.heap.size V3 y1 := ((Below.refl _ _).drew).trans hb
   have HQ1 := Lib.hid hq1
   clear hb
   rw [← HBTE.out]
   go_wp2_with fail
   refine hK.out _ _ (fun _ => hq1) (fun hS => ?_)
   have hHeld := hS (by decide)
   clear hS hK K
   try simp only [Act.put, x_A, x_0, x_1]
   clear hq1
   refine HeldT.one (i := 5) (o := { dst := some 29, op := .call _, .. }) (by kernel_rfl) rfl rfl (fun K hK => ?_)
   have HC5 := Lib.hid (pjoin_o dg x bt y1 HDL.out HXL2.out HB01.out)
   go_wp2_with fail
   refine HC5.out.mono ?_
   rintro e y2 ⟨v, rfl, hO, hb⟩
   obtain ⟨A3, c3, rfl, hc3, hA3, hf3⟩ := hO.opened
   rw [← HSTEP.out] at hc3 hA3 ⊢
   have hq2 : Below V3.heap.size V3 y2 := HQ1.out.trans (hb.mono HQ1.out.size)
   have HQ2 := Lib.hid hq2
   have HCL3 := Lib.hid hc3
   have HA3 := Lib.hid hA3
   have HF3 : Hid (∀ a, A3 = some a → V3.heap.size ≤ a.block ∧ a.block < y2.heap.size ∧ ∃ cs, y2.heap[a.block]? = some (.cells cs 5 (0, 0))) := fun a ha => ⟨Nat.le_trans HQ1.out.size (hf3 a ha).1, (hf3 a ha).2⟩
   clear hO hb HC5 HQ1 hc3 hA3 hf3
   go_wp2_with fail
   refine hK.out _ _ (fun _ => hq2) (fun hS => ?_)
   have hHeld := hS (by decide)
   clear hS hK K
   try simp only [Act.put, x_A, x_0, x_1]
   clear hq2
   refine HeldT.one (i := 6) (o := { dst := none, op := .store _ (.tmp 6) (.tmp 29), .. }) (by kernel_rfl) rfl rfl (fun K hK => ?_)
   have hbq2 : y2.heap[bq]? = some (.cells #[.slice A2 (pF pre.length).length c2] 22 (0, 0)) := by rw [HQ2.out.block _ (lt_of_heap HBQ3.out)]; exact HBQ3.out
   have hcell : y2.cell? ⟨bq, 0, none⟩ = some (.slice A2 (pF pre.length).length c2) := by rw [cell_of_cells hbq2]; rfl
   have hfroz : y2.frozen? ⟨bq, 0, none⟩ = false := frozen_of_row y2 _ _ _ _ hbq2
   have HBQ2 := Lib.hid hbq2
   clear hbq2
   go_wp2_with fail
   refine hK.out _ _ (fun h => absurd rfl h) (fun _ => ?_)
   clear hK K
   refine HeldT.done (by kernel_rfl) ?_ _
   clear hcell hfroz hHeld LQ LX LK
   have hz := HZ.out
   have hvs := HVS.out
   have hv3 := HVS3.out
   have hos := HOS.out
   obtain ⟨y3, hy3⟩ : ∃ y3, y3 = y2.setCell ⟨bq, 0, none⟩ (.slice A3 (pF (pre.length + 1)).length c3) := ⟨_, rfl⟩
   rw [← hy3]
   have hq3 : y3.heap[bq]? = some (.cells #[.slice A3 (pF (pre.length + 1)).length c3] 22 (0, 0)) := by rw [hy3]; exact set_row HBQ2.out
   have hk23 : Keep (fun i => i = bq) y2 y3 := by rw [hy3]; exact Keep.cell y2 ⟨bq, 0, none⟩ _
   have hk33 : Keep (fun i => i = bq) V3 y3 := (Keep.of_below HQ2.out).trans hk23
   have hkw : Keep (fun i => i = b ∨ i = rb) w y3 := HKW3.out.step hk33 fun i hi => .inr (by have e : i = bq := hi; omega)
   have hS3 := HST.out y3 hkw
   have lh : y3.cell? ⟨hb, 0, none⟩ = some (ptr b) := by rw [cell_of_cells hS3.h]; rfl
   have lb : y3.cell? ⟨bq, 0, none⟩ = some (.slice A3 (pF (pre.length + 1)).length c3) := by rw [cell_of_cells hq3]; rfl
   have HHy : Hid (Hs y3 b n (m + pre.length + 1)) := HH3.out.keep hk33 (by omega)
   have hA3 : BA y3 A3 (pF (pre.length + 1)) := fun i y hy => by
    obtain ⟨g, o, e, h1⟩ := HA3.out i y hy
    exact ⟨g, o, e, hk23.cellAt h1 (by have e2 : V3.heap.size ≤ g := (HF3.out _ e).1; show ¬ g = bq; omega)⟩
   have HC8 := Lib.hid (sum_hs b n (m + pre.length + 1) A3 (pF (pre.length + 1)) c3 y3 HHy.out (by have := HM.out; have := HP1.out; have := HD2.out; omega) hA3 HCL3.out (by have := HPS.out (pre.length + 1) HP1.out; omega) hS3.v)
   have HYK := Lib.hid hk33
   have HYW := Lib.hid hkw
   have HYQ := Lib.hid hq3
   have HYA := Lib.hid hA3
   have HYF : Hid (∀ a, A3 = some a → V3.heap.size ≤ a.block ∧ a.block < y3.heap.size ∧ ∃ cs, y3.heap[a.block]? = some (.cells cs 5 (0, 0))) := fun a ha => by
    obtain ⟨g1, g2, cs, g3⟩ := HF3.out a ha
    exact ⟨g1, Nat.lt_of_lt_of_le g2 hk23.size, cs, hk23.heap g3 (by show ¬ _ = bq; omega)⟩
   clear hz hvs hv3 hos hy3 hq3 hk23 hk33 hkw hS3 hA3 HBQ2 HQ2 HA3 HF3
   gi_wp2
   refine ⟨trivial, fun h => (by cases h), (CallsIn.inRound _ (callsIn_wide.2 HC8.out)).mono ?_⟩
   rintro _ w9 ⟨rfl, hH9, hk9⟩
   have hz := HZ.out
   have hvs := HVS.out
   have hv3 := HVS3.out
   have hos := HOS.out
   have hd9 : w9.heap[dq]? = some (.cells (bA (digL n (pF pre.length))) 47 (0, 0)) := hk9.heap (HYK.out.heap HDQ3.out (by omega)) (by omega)
   have st2 : stA 47 w9 (.pointer (some ⟨dq, 0, none⟩)) (.agg (bA (digL n (pF (pre.length + 1))))) = .ok .skip (w9.setRow dq (bA (digL n (pF (pre.length + 1))))) := stA_row hd9 (by rw [bA_size, dig_len]; exact info26) (by rw [bA_size, bA_size, dig_len, dig_len]) (bA_one _)
   obtain ⟨wE, hwE⟩ : ∃ wE, wE = w9.setRow dq (bA (digL n (pF (pre.length + 1)))) := ⟨_, rfl⟩
   have hkE : Keep (fun i => i = dq) w9 wE := by rw [hwE]; exact Keep.row _ _ _
   have hdE : wE.heap[dq]? = some (.cells (bA (digL n (pF (pre.length + 1)))) 47 (0, 0)) := by rw [hwE]; exact setRow_heap w9 dq _ _ _ _ hd9
   have hk9E : Keep (fun i => i = b ∨ i = dq) y3 wE := (hk9.mono fun _ h => .inl h).trans (hkE.mono fun _ h => .inr h)
   have hk3E : Keep (fun i => i = b ∨ i = bq ∨ i = dq) V3 wE := (HYK.out.mono fun _ h => .inr (.inl h)).trans (hk9E.mono fun _ h => h.elim .inl fun h => .inr (.inr h))
   rw [← hwE] at st2
   have HE1 : Hid (Keeps2 B V wE) := fun i o h1 h2 h3 h4 => hk3E.heap (HK3.out.heap h3 fun h => h.2 (.inl (.inl ((hos i).2 (by omega))))) (by omega)
   have HE2 : Hid (Keep (fun i => ((i = b ∨ i = rb ∨ w.heap.size ≤ i) ∧ i ≠ sq) ∧ ¬ O i) V wE) := (HK3.out.mono fun i h => ⟨⟨.inr h.1, fun e => h.2 (.inl (.inl ((hos i).2 (by omega))))⟩, fun h2 => h.2 (.inl (.inr h2))⟩).trans (hk3E.mono fun i h => ⟨⟨by omega, by omega⟩, fun ho => by have := HOV.out i ho; omega⟩)
   have HE3 : Hid (It16 w b rb yb bq dq l0 n m pF Os J (pre.length + 1) O wE) := by
    refine ⟨hH9.keep hkE (by omega), hk3E.heap HY3.out (by omega), hdE, ⟨A3, c3, hk9E.heap HYQ.out (by omega), fun i y hy => ?_, HCL3.out, fun a ha => ?_⟩, HB.out true _ _ V3 wE _ HJ3.out (hk3E.mono fun i h => .inl (.inl ((hos i).2 (by omega)))) fun i h => .inl (.inl h), (HYW.out.trans (hk9.mono fun _ h => .inl h)).step hkE fun i hi => .inr (by have e : i = dq := hi; omega)⟩
    ·obtain ⟨g, o, e, h1⟩ := HYA.out i y hy
     exact ⟨g, o, e, hk9E.cellAt h1 (by have e2 : V3.heap.size ≤ g := (HYF.out _ e).1; show ¬ (g = b ∨ g = dq); omega)⟩
    ·obtain ⟨g1, g2, cs, g3⟩ := HYF.out a ha
     exact ⟨by omega, Nat.lt_of_lt_of_le g2 hk9E.size, fun h => by have := HOSV.out _ h; omega, fun h => by have := HOV.out _ h; omega, cs, hk9E.heap g3 (by omega)⟩
   clear hz hvs hv3 hos hH9 hk9 hd9 hwE hkE hdE hk9E hk3E lh lb
   gi_wp2
   exact ⟨HE1.out, HE2.out, by show It16 w b rb yb bq dq l0 n m pF Os J (pre ++ [(x, t)]).length O wE; rw [List.length_append]; exact HE3.out⟩
end
section
open Go.RowKit
attribute [local go_sem] Oper.semAt_some
theorem psteps_c (b : Nat) (vp vk : Array Value) (A : Option Addr) (m c : Nat) (w : World) : Calls Tryz.prog 148 #[ptr b, .agg vp, .slice A m c, .agg vk] w fun e w' =>
  e = .returned (.func (.func 155) #[] #[.pointer (some ⟨w.heap.size + 1, 0, none⟩), .pointer (some ⟨w.heap.size, 0, none⟩), .pointer (some ⟨w.heap.size + 2, 0, none⟩), .pointer (some ⟨w.heap.size + 3, 0, none⟩)]) ∧
   w' = (((w.alloc (.cells #[ptr b] 29)).alloc (.cells vp 53)).alloc (.cells #[.slice A m c] 51)).alloc (.cells vk 48) := by
 go_enter Tryz.func148, Tryz.ntmps148
 go_wp2_with fail
 go_ret
 exact ⟨by simp, rfl⟩
theorem row16_obj {w : World} {B : Nat} {e : TypeId} {size : Nat} {v : Value} {n : Nat} {xs : List Value} {m : Nat} {o o' : Obj} (h : w.ownsRow B e size v n xs) (hm : w.heap[m]? = some o) (hc : o.isCells = false) : (w.putObj m o').ownsRow B e size v n xs := row11_other h fun g cs hg hh => by
 by_cases e : g = m
 ·subst e; rw [hh] at hm; cases hm; cases hc
 ·exact (World.putObj_heap_other e).trans hh
structure SpI (wS : World) (b r0 : Nat) (dF : Nat → List UInt8) (pre : List Nat) (O : Nat → Prop) (X : World) : Prop where
 kp : Keep (fun i => i = b ∨ i = r0) wS X
 row : ∃ v, X.heap[r0]? = some (.cells #[v] 51 (0, 0)) ∧ OwnD X wS.heap.size v (pre.map dF) ∧ ∀ g, v.ownBlock = some g → g ≠ r0 ∧ ¬ O g
theorem SpI.bears {wS : World} {b r0 : Nat} {dF : Nat → List UInt8} {pre : List Nat} (hr : r0 < wS.heap.size) (hrb : r0 ≠ b) : BearsS (fun i => i = b) wS.heap.size (SpI wS b r0 dF pre) := fun O X Y O' ⟨h0, v, h1, h2, h3⟩ hO hs hk ho => by
 refine ⟨h0.step hk fun i hi => (hO i hi).elim (fun h => .inl (.inl h)) fun h => .inr (by omega), v, hk.heap h1 fun h => (hO _ h).elim hrb fun h => by omega, row11_keep h2 hk fun g hg h => (h3 g hg).2 h, fun g hg => ⟨(h3 g hg).1, fun h => (ho g h).elim (h3 g hg).2 fun h => ?_⟩⟩
 obtain ⟨_, cs, hcs⟩ := row11_lt h2 g hg
 have := lt_of_heap hcs
 omega
theorem SpI.below {wS : World} {b r0 : Nat} {dF : Nat → List UInt8} {pre : List Nat} {O : Nat → Prop} {X Y : World} (h : SpI wS b r0 dF pre O X) (hb : Below X.heap.size X Y) : SpI wS b r0 dF pre O Y := by
 obtain ⟨h0, v, h1, h2, h3⟩ := h
 exact ⟨h0.trans (Keep.of_below hb), v, by rw [hb.block _ (lt_of_heap h1)]; exact h1, row11_keep h2 (Keep.of_below (L := fun _ => False) hb) fun _ _ h => h, h3⟩
theorem SpI.obj {wS : World} {b r0 : Nat} {dF : Nat → List UInt8} {pre : List Nat} {O : Nat → Prop} (hr : r0 < wS.heap.size) : BearsL wS.heap.size (SpI wS b r0 dF pre O) := fun X m o o' ⟨h0, v, h1, h2, h3⟩ hm _ ho hc =>
 ⟨h0.step (keep_putObj (M := fun i => i = m) X m o' rfl) fun i hi => .inr (by have e : i = m := hi; omega), v, (World.putObj_heap_other (by omega)).trans h1, row16_obj h2 ho hc, h3⟩
theorem SpI.push {wS V Z w1 : World} {b r0 : Nat} {dF : Nat → List UInt8} {pre : List Nat} {x : Nat} {O : Nat → Prop} {v v' : Value} (hr : r0 < wS.heap.size) (hrb : r0 ≠ b)
  (h0 : Keep (fun i => i = b ∨ i = r0) wS V) (h1 : V.heap[r0]? = some (.cells #[v] 51 (0, 0))) (h2 : OwnD V wS.heap.size v (pre.map dF)) (h3 : ∀ g, v.ownBlock = some g → g ≠ r0 ∧ ¬ O g)
  (hO : ∀ i, O i → (i = b ∨ wS.heap.size + 2 ≤ i) ∧ i < V.heap.size) (hZ : Below V.heap.size V Z) (hO9 : OwnD w1 wS.heap.size v' (pre.map dF ++ [dF x])) (hG : Grown11 v v' Z w1) :
  w1.cell? ⟨r0, 0, none⟩ = some v ∧ w1.frozen? ⟨r0, 0, none⟩ = false ∧ Hid (Keeps2 wS.heap.size V (w1.setCell ⟨r0, 0, none⟩ v') ∧ Keep (fun i => (i = r0 ∨ wS.heap.size ≤ i) ∧ ¬ O i) V (w1.setCell ⟨r0, 0, none⟩ v') ∧ SpI wS b r0 dF (pre ++ [x]) O (w1.setCell ⟨r0, 0, none⟩ v')) := by
 have hz1 : Z.heap[r0]? = some (.cells #[v] 51 (0, 0)) := by rw [hZ.block _ (lt_of_heap h1)]; exact h1
 have g1 : w1.heap[r0]? = some (.cells #[v] 51 (0, 0)) := hG.keep.heap hz1 fun e => (h3 r0 e).1 rfl
 have k1 : Keep (fun i => i = r0) w1 (w1.setCell ⟨r0, 0, none⟩ v') := Keep.cell w1 ⟨r0, 0, none⟩ v'
 have hk : Keep (fun i => i = r0 ∨ v.ownBlock = some i) V (w1.setCell ⟨r0, 0, none⟩ v') := ((Keep.of_below hZ).trans (hG.keep.mono fun _ h => .inr h)).trans (k1.mono fun _ h => .inl h)
 have hZs := hZ.size
 have hv' : ∀ g, v'.ownBlock = some g → v.ownBlock = some g ∨ g = Z.heap.size := fun g hg => hG.blk.imp (fun e => by rw [← e]; exact hg) fun e => by rw [e] at hg; cases hg; rfl
 have hrV := lt_of_heap h1
 have hL : ∀ i, (i = r0 ∨ v.ownBlock = some i) → (i = r0 ∨ wS.heap.size ≤ i) ∧ ¬ O i ∧ (V.heap[i]?.map Obj.isCells = some true) := fun i hi => by
  rcases hi with rfl | hi
  ·exact ⟨.inl rfl, fun h => (hO _ h).1.elim hrb fun h => by omega, by rw [h1]; rfl⟩
  ·obtain ⟨f1, cs, f2⟩ := row11_lt h2 i hi
   exact ⟨.inr f1, (h3 i hi).2, by rw [f2]; rfl⟩
 refine ⟨by rw [cell_of_cells g1]; rfl, frozen_of_row w1 _ _ _ _ g1, fun k o hk1 hk2 ho hcl => hk.heap ho fun h => ?_, hk.mono fun i hi => ⟨(hL i hi).1, (hL i hi).2.1⟩, h0.step hk fun i hi => (hL i hi).1.imp .inr id, v', set_row g1, row11_keep (by rw [List.map_append]; exact hO9) k1 fun g hg e => ?_, fun g hg => ?_⟩
 ·have := (hL k h).2.2
  rw [ho] at this
  simp [hcl] at this
 ·have e : g = r0 := e
  rcases hv' g hg with h | h
  ·exact (h3 g h).1 e
  ·omega
 ·rcases hv' g hg with h | h
  ·exact h3 g h
  ·exact ⟨by omega, fun ho => by have := hO g ho; omega⟩
theorem DS.nilA {w : World} {A : Option Addr} : DS w A [] := fun i k h => by simp at h
theorem st16_of {w4 : World} {pb hb kb sb b r0 B : Nat} {n : Int} {m : Nat} {p : Pf} {s : Value} {k : List UInt8} {A : Option Addr} {c : Nat} {X : List (List UInt8)} (hp : PfAt w4 pb p s) (hh : w4.heap[hb]? = some (.cells #[ptr b] 29 (0, 0)))
  (hk : w4.heap[kb]? = some (.cells (bA k) 48 (0, 0))) (hs : w4.heap[sb]? = some (.cells #[.slice A X.length c] 51 (0, 0))) (hd : NewD w4 B A c X) (hX : ∀ x ∈ X, x.length = 32) (hv : Vars w4) (hH : Hs w4 b n m) (hbB : b < B)
  {rt : TypeId} (hrt : rt ≠ 47) (hr0 : w4.heap[r0]? = some (.cells #[.slice none 0 0] rt (0, 0))) (hne : pb ≠ b ∧ hb ≠ b ∧ kb ≠ b ∧ sb ≠ b) (hnr : pb ≠ r0 ∧ hb ≠ r0 ∧ kb ≠ r0 ∧ sb ≠ r0) (hvr : r0 ≠ 2 ∧ r0 ≠ 1) (Y : World) (hK : Keep (fun i => i = b ∨ i = r0) w4 Y) : St16 pb hb kb sb b p s k A c X Y where
 p := hp.keep hK fun h => h.elim hne.1 hnr.1
 h := hK.heap hh fun h => h.elim hne.2.1 hnr.2.1
 k := hK.heap hk fun h => h.elim hne.2.2.1 hnr.2.2.1
 s := hK.heap hs fun h => h.elim hne.2.2.2 hnr.2.2.2
 ds := by
  rcases hd.2 with rfl | ho
  ·exact DS.nilA
  ·refine OwnD.dsA (B := B) (n := X.length) (c := c) (row11_keep ho hK fun g hg h => ?_) hX
   obtain ⟨h1, cs, h2⟩ := row11_lt ho g hg
   rcases h with h | h
   ·omega
   ·rw [h, hr0] at h2
    injection h2 with h2
    injection h2 with _ h2
    exact hrt h2
 v := hv.keep hK (fun h => h.elim (fun e => (hH.vars hv).1 e.symm) fun e => hvr.1 e.symm) (fun h => h.elim (fun e => (hH.vars hv).2 e.symm) fun e => hvr.2 e.symm)
theorem chk_kind {p : Pf} (h : chkP p = 0) : p.good ∧ (p.kind = 0 ∨ p.kind = 1) := by
 rcases chkP_cases p with h1 | ⟨h1, h2 | h2⟩
 ·omega
 ·omega
 ·exact ⟨h2.2, h1⟩
theorem stpB_map (n : Int) (e : List UInt8) (X : List (List UInt8)) (k : List UInt8) (D : Nat) : ∀ i, stpB n e X k D i = (List.range (i + 1)).map fun j => digL n (preF n e X k D j)
 | 0 => rfl
 | i + 1 => by unfold stpB; rw [stpB_map n e X k D i, List.range_succ (n := i + 1), List.map_append]; rfl
theorem Vars.lts {w : World} (h : Vars w) : 2 < w.heap.size ∧ 1 < w.heap.size :=
 ⟨lt_of_cell (h.kt 5 (by decide)), lt_of_cell (h.it 5 _ (show (init8.list.map u)[5]? = some (u (init8.list.getD 5 0)) from rfl))⟩
theorem psteps_ok (w : World) (b : Nat) (n : Int) (m : Nat) (p : Pf) (A : Option Addr) (c : Nat) (k : List UInt8) (hH : Hs w b n m) (hm : m ≤ 500000) (hv : Vars w) (hp : p.Ok) (hA : DS w A p.sib) (hc : p.sib.length ≤ c) (hl : p.sib.length ≤ 1000000) (hk : k.length = 32) (h0 : chkP p = 0) :
  Calls Tryz.prog 140 #[ptr b, .agg (pfC p (.slice A p.sib.length c)), .agg (bA k)] w fun e w' => ∃ A' c' m', e = .returned (.tuple #[.slice A' (stepL n p k).length c', .int .i64 0]) ∧ NewD w' w.heap.size A' c' (stepL n p k) ∧ m' ≤ m + (p.dep.toNat + 2) ∧ Hs w' b n m' ∧ Keep (fun i => i = b) w w' := by
 obtain ⟨s, hs⟩ : ∃ s : Value, s = .slice A p.sib.length c := ⟨_, rfl⟩
 obtain ⟨w1, hw1⟩ : ∃ w1, w1 = (w.alloc (.cells (pfC p s) 53)).alloc (.cells (bA k) 48) := ⟨_, rfl⟩
 have hB1 : Below w.heap.size w w1 := by rw [hw1]; exact ((Below.refl _ _).alloc (Nat.le_refl _) _).alloc (by simp) _
 have hz1 : w1.heap.size = w.heap.size + 2 := by rw [hw1]; simp
 have hP1 : PfAt w1 w.heap.size p s := by rw [hw1]; exact (Below.heap_alloc _ _ _ (by simp)).trans (heap_alloc_new _ _)
 have hK1 : w1.heap[w.heap.size + 1]? = some (.cells (bA k) 48 (0, 0)) := by rw [hw1]; exact heap_alloc2_new w _ _
 have ld := hP1.ld hp
 rw [hw1] at ld
 obtain ⟨hgood, hkd⟩ := chk_kind h0
 obtain ⟨D, hD⟩ : ∃ D : Nat, D = p.dep.toNat := ⟨_, rfl⟩
 have hdep : p.dep = (D : Int) := by have := hgood.1; omega
 obtain ⟨X, hX⟩ : ∃ X, X = sidX n p := ⟨_, rfl⟩
 have hXl : X.length = D := by rw [hX, hD]; exact expL_len ..
 have hX2 : ∀ x ∈ X, x.length = 32 := fun x hx => expL_mem (n := n) (d := p.dep.toNat) hgood.2.2.2.1 hp.sib (by have := hgood.2.1; omega) x (by rw [hX] at hx; exact hx)
 have hbw := lt_of_heap hH
 have hvl := hH.vars hv
 have HEX := pexp_1 w1 b n m p A c (hH.keep (Keep.of_below (L := fun _ => False) hB1) id) hm (hv.below hB1) hp (hA.below hB1) hc hl h0
 rw [← hs, ← show sidX n p = expL n p.bm p.sib p.dep.toNat from rfl, ← hX] at HEX
 have HEX := Lib.hid HEX
 have HST : Hid (stepL n p k = (List.range (D + 1)).map fun i => digL n (preF n (endP p) X k D i)) := by show _ = _; unfold stepL; rw [← hX, ← hD]; exact stpB_map ..
 obtain ⟨pF, hpF⟩ : ∃ pF, pF = preF n (endP p) X k D := ⟨_, rfl⟩
 obtain ⟨dF, hdF⟩ : ∃ dF : Nat → List UInt8, dF = fun i => digL n (pF i) := ⟨_, rfl⟩
 rw [← hpF, ← hdF] at HST
 have HPF := Lib.hid hpF
 have HDF : Hid (∀ i, dF i = digL n (pF i)) := fun i => by rw [hdF]
 have HVL := Lib.hid hvl
 rw [HST.out, ← hs, ← hD]
 have HW1 := Lib.hid hw1
 have HB1 := Lib.hid hB1
 have HZ1 := Lib.hid hz1
 have HP1 := Lib.hid hP1
 have HK1 := Lib.hid hK1
 have HDE := Lib.hid hdep
 have HD2 : Hid (D ≤ 256) := by have := hgood.2.1; show D ≤ 256; omega
 have HKD := Lib.hid hkd
 have HXL := Lib.hid hXl
 have HX2 := Lib.hid hX2
 have HBW := Lib.hid hbw
 have HVS : Hid (2 < w.heap.size ∧ 1 < w.heap.size) := hv.lts
 have HV := Lib.hid hv
 have HPO := Lib.hid hp
 have HK := Lib.hid hk
 have HM := Lib.hid hm
 clear hs hw1 hB1 hz1 hP1 hK1 h0 hgood hkd hD hdep hX hXl hX2 hbw hvl hpF hdF hH hm hv hp hA hc hl hk
 refine (callsIn_wide (n := 10)).1 ?_
 refine callsIn_of_wp_marks Tryz.func140 rfl trivial ?_ rfl
 simp only [Tryz.ntmps140, List.size_toArray, List.length_cons, List.length_nil, Nat.reduceAdd, Nat.reduceSub, Array.replicate_succ, Array.replicate_zero, List.push_toArray, List.append_toArray, List.nil_append, List.cons_append]
 refine wpIn_wide.2 ?_
 go_wp2_with fail
 rw [← HW1.out]
 refine HEX.out.mono ?_
 rintro _ w2 ⟨AX, cX, m2, rfl, hN2, hm2, hH2, hk2⟩
 have hz2 := hk2.size
 obtain ⟨w3, hw3⟩ : ∃ w3, w3 = w2.alloc (.cells #[.slice none 0 0] 51) := ⟨_, rfl⟩
 have hb3 : Below w2.heap.size w2 w3 := by rw [hw3]; exact Bt.one_below _ _
 have hz3 : w3.heap.size = w2.heap.size + 1 := by rw [hw3]; simp
 have hr3 : w3.heap[w2.heap.size]? = some (.cells #[.slice none 0 0] 51 (0, 0)) := by rw [hw3]; exact heap_alloc_new _ _
 have hne0 : w.heap.size ≠ b := by have := HBW.out; omega
 have hne1 : w.heap.size + 1 ≠ b := by have := HBW.out; omega
 have hP3 : PfAt w3 w.heap.size p s := (HP1.out.keep hk2 hne0).below hb3 (by have := HZ1.out; omega)
 have hK3 : w3.heap[w.heap.size + 1]? = some (.cells (bA k) 48 (0, 0)) := by rw [hb3.block _ (by have := HZ1.out; omega)]; exact hk2.heap HK1.out hne1
 have ld3 := hP3.ld HPO.out
 have lk3 : ldA 48 w3 (.pointer (some ⟨w.heap.size + 1, 0, none⟩)) = .ok (.value (.agg (bA k))) w3 := ldA_row hK3 Tryz.underlying48 (by rw [bA_size, HK.out]; exact infoKey)
 rw [hw3] at ld3 lk3
 have HW3 := Lib.hid hw3
 have HB3 := Lib.hid hb3
 have HZ3 := Lib.hid hz3
 have HR3 := Lib.hid hr3
 have HN2 := Lib.hid hN2
 have HM2 := Lib.hid hm2
 have HH2 := Lib.hid hH2
 have HK2 := Lib.hid hk2
 have HZ2 := Lib.hid hz2
 clear hw3 hb3 hz3 hr3 hN2 hm2 hH2 hk2 hz2 HEX ld hP3 hK3 hne0 hne1
 go_wp2_with fail
 rw [← HW3.out]
 refine (psteps_c b (pfC p s) (bA k) AX X.length cX w3).mono ?_
 rintro _ w4 ⟨rfl, hw4⟩
 obtain ⟨r0, hr0⟩ : ∃ r0, r0 = w2.heap.size := ⟨_, rfl⟩
 have hz4 : w4.heap.size = r0 + 5 := by rw [hw4, hr0]; simp [HZ3.out]
 have h33 : w3.heap.size = r0 + 1 := by rw [HZ3.out, hr0]
 rw [h33]
 have hb34 : Below w3.heap.size w3 w4 := by rw [hw4]; exact ((((Below.refl _ _).alloc (Nat.le_refl _) _).alloc (by simp only [World.size_alloc]; omega) _).alloc (by simp only [World.size_alloc]; omega) _).alloc (by simp only [World.size_alloc]; omega) _
 have e1 : w4.heap[r0 + 1]? = some (.cells #[ptr b] 29 (0, 0)) := by
  rw [hw4, ← h33]
  refine (Below.heap_alloc _ _ _ (by simp only [World.size_alloc]; omega)).trans ((Below.heap_alloc _ _ _ (by simp only [World.size_alloc]; omega)).trans ((Below.heap_alloc _ _ _ (by simp only [World.size_alloc]; omega)).trans (heap_alloc_new _ _)))
 have e2 : PfAt w4 (r0 + 2) p s := by
  show w4.heap[r0 + 2]? = _
  rw [hw4, ← show (w3.alloc (.cells #[ptr b] 29)).heap.size = r0 + 2 by simp [h33]]
  refine (Below.heap_alloc _ _ _ (by simp only [World.size_alloc]; omega)).trans ((Below.heap_alloc _ _ _ (by simp only [World.size_alloc]; omega)).trans (heap_alloc_new _ _))
 have e4 : w4.heap[r0 + 3]? = some (.cells #[.slice AX X.length cX] 51 (0, 0)) := by
  rw [hw4, ← show ((w3.alloc (.cells #[ptr b] 29)).alloc (.cells (pfC p s) 53)).heap.size = r0 + 3 by simp [h33]]
  refine (Below.heap_alloc _ _ _ (by simp only [World.size_alloc]; omega)).trans (heap_alloc_new _ _)
 have e3 : w4.heap[r0 + 4]? = some (.cells (bA k) 48 (0, 0)) := by
  rw [hw4, ← show (((w3.alloc (.cells #[ptr b] 29)).alloc (.cells (pfC p s) 53)).alloc (.cells #[.slice AX X.length cX] 51)).heap.size = r0 + 4 by simp [h33]]
  exact heap_alloc_new _ _
 have hK24 : Keep (fun _ => False) w2 w4 := Keep.of_below (HB3.out.trans (hb34.mono HB3.out.size))
 have hr4 : w4.heap[r0]? = some (.cells #[.slice none 0 0] 51 (0, 0)) := by rw [hb34.block _ (by omega), hr0]; exact HR3.out
 have hH4 : Hs w4 b n m2 := HH2.out.keep hK24 id
 have hV4 : Vars w4 := (((HV.out.below HB1.out).keep HK2.out (fun e => HVL.out.1 e.symm) (fun e => HVL.out.2 e.symm))).keep hK24 id id
 have hN4 : NewD w4 w1.heap.size AX cX X := ⟨HN2.out.1, HN2.out.2.imp id fun h => row11_keep h hK24 fun _ _ h => h⟩
 have hlt : b < r0 ∧ w.heap.size + 2 ≤ r0 := by have := HBW.out; have := HZ1.out; have := HZ2.out; omega
 have hst := st16_of (r0 := r0) e2 e1 e3 e4 hN4 HX2.out hV4 hH4 (by have := HBW.out; have := HZ1.out; omega) (by decide) hr4 ⟨by omega, by omega, by omega, by omega⟩ ⟨by omega, by omega, by omega, by omega⟩ ⟨by have := HVS.out; omega, by have := HVS.out; omega⟩
 have HSEQ := Lib.hid (steps_seq w4 b r0 (r0 + 2) (r0 + 1) (r0 + 4) (r0 + 3) n m2 p s k AX cX X hst hH4 (by omega) (by omega) (by have := HM.out; have := HM2.out; omega) HPO.out HK.out HKD.out D HDE.out HD2.out HXL.out HX2.out (by rw [← HXL.out]; exact HN2.out.1))
 rw [← HPF.out] at HSEQ
 have HI0 : Hid (SpI w4 b r0 dF [] (fun i => i = b) w4) := ⟨Keep.refl _ _, _, hr4, OwnD.nil _ _, fun g hg => by simp [Value.ownBlock] at hg⟩
 have HZ4 := Lib.hid hz4
 have HLT := Lib.hid hlt
 have HR0 := Lib.hid hr0
 have HKW4 : Hid (Keep (fun i => i = b) w w4) := ((Keep.of_below HB1.out).trans HK2.out).trans (hK24.mono fun _ h => h.elim)
 clear hz4 h33 hb34 e1 e2 e3 e4 hK24 hr4 hH4 hV4 hN4 hlt hst hw4 ld3 lk3 hr0
 go_wp2_with fail
 rw [← HR0.out]
 refine (wpIn_wide (n := 10)).1 ?_
 have hz4 := HZ4.out
 have hlt := HLT.out
 refine wpIn_rangeS (gf := 155) (lb := #[.pointer (some ⟨r0 + 2, 0, none⟩), .pointer (some ⟨r0 + 1, 0, none⟩), .pointer (some ⟨r0 + 3, 0, none⟩), .pointer (some ⟨r0 + 4, 0, none⟩)]) rfl (enters_of Tryz.func155 (by kernel_rfl) rfl) HSEQ.out
  (fun i h => by have e : i = b := h; omega) (fun s X m o o' h hm _ _ _ => (World.putObj_heap_other (by omega)).trans h) (fun i h1 _ => .inr h1) (fun x args O H X ⟨_, _, h, _⟩ => by rw [h]; rfl)
  (SpI w4 b r0 dF) (fun _ _ _ _ => False) (fun s => SpI.bears (by omega) (by omega)) (fun s O => SpI.obj (by omega)) (fun _ _ _ _ _ _ h => h.elim) (fun _ _ _ _ _ _ _ h => h.elim)
  (fun X hX => HI0.out.below hX) ?round ?done ?stop
 case stop =>
  rintro D cc pre O X _ _ h _
  exact h.elim
 case round =>
  rintro m0 pre x O H args X1 rfl ⟨r, hr⟩ hI hLO hO hp ⟨A3, c3, rfl, _, _, _⟩ _
  have hdl : (digL n (pF x)).length = 32 := dig_len _ _
  rw [← HDF.out x] at hdl ⊢
  have st1 : stA 47 (X1.alloc (.cells (bA z26) 47)) (.pointer (some ⟨X1.heap.size, 0, none⟩)) (.agg (bA (dF x))) = .ok .skip (X1.alloc (.cells (bA (dF x)) 47)) := stA_new X1 _ _ (by rw [bA_size, hdl]; exact info26) (by rw [bA_size, bA_size, hdl]; rfl) (bA_one _)
  obtain ⟨X2, hX2⟩ : ∃ X2, X2 = X1.alloc (.cells (bA (dF x)) 47) := ⟨_, rfl⟩
  have hb2 : Below X1.heap.size X1 X2 := by rw [hX2]; exact Bt.one_below _ _
  have hc2 : X2.heap[X1.heap.size]? = some (.cells (bA (dF x)) 47 (0, 0)) := by rw [hX2]; exact heap_alloc_new _ _
  rw [← hX2] at st1
  have HI := Lib.hid (SpI.below hI hb2)
  have HO := Lib.hid hO
  have HP2 := Lib.hid hp
  have HLX : Hid (w4.heap.size + 1 < X1.heap.size) := lt_of_heap hr
  have HB2 := Lib.hid hb2
  have HC2 := Lib.hid hc2
  have HDL := Lib.hid hdl
  clear hr hI hLO hO hp hX2 hb2 hc2 hdl hz4 hlt
  gi_wp2
  clear st1
  refine ⟨Keeps2.of_keep (L := fun _ => False) (Keep.of_below HB2.out) id id, Keep.of_below HB2.out, HI.out, fun V _ hkV hIV => ?_⟩
  obtain ⟨g0, v, g1, g2, g3⟩ := hIV
  have lc : V.cell? ⟨r0, 0, none⟩ = some v := by rw [cell_of_cells g1]; rfl
  have lx : ldA 47 V (.pointer (some ⟨X1.heap.size, 0, none⟩)) = .ok (.value (.agg (bA (dF x)))) V := RowB.ldDig (hkV.heap HC2.out (by have := HLX.out; show ¬ _ = _; omega)) HDL.out
  have bs := bsD_one (dF x) HDL.out
  obtain ⟨Z, hZ⟩ : ∃ Z, Z = V.alloc (.cells (bA (dF x)) 47) := ⟨_, rfl⟩
  have hbZ : Below V.heap.size V Z := by rw [hZ]; exact Bt.one_below _ _
  have HCZ : Hid (Z.rangeAt V.heap.size 0 (dC (dF x))) := by show Z.rangeAt _ _ _; rw [hZ]; exact dig_made _ _ _
  have HOZ : Hid (OwnD Z w4.heap.size v (pre.map dF)) := row11_keep g2 (Keep.of_below (L := fun _ => False) hbZ) fun _ _ h => h
  have HZ := Lib.hid hZ
  have HBZ := Lib.hid hbZ
  have G0 := Lib.hid g0
  have G1 := Lib.hid g1
  have G2 := Lib.hid g2
  have G3 : Hid (∀ g, v.ownBlock = some g → g ≠ r0 ∧ ¬ O g) := fun g hg => ⟨(g3 g hg).1, fun h => (g3 g hg).2 (.inl h)⟩
  have HEL : Hid ((pre.map dF).length ≤ 1000000) := by
   show _ ≤ _
   obtain ⟨z, hz⟩ := HP2.out
   have := congrArg List.length hz
   simp at this
   have := HD2.out
   rw [List.length_map]
   omega
  have HVS2 : Hid (X2.heap.size ≤ V.heap.size) := hkV.size
  have HOV : Hid (∀ i, O i → (i = b ∨ w4.heap.size + 2 ≤ i) ∧ i < V.heap.size) := fun i h => ⟨(HO.out i (.inl h)).1, by have := (HO.out i (.inl h)).2; have := HB2.out.size; have := HVS2.out; omega⟩
  have HBB : Hid (w4.heap.size ≤ Z.heap.size) := by show _ ≤ _; have := HLX.out; have := HB2.out.size; have := HVS2.out; have := HBZ.out.size; omega
  have HR4 : Hid (r0 < w4.heap.size ∧ r0 ≠ b) := by have := HZ4.out; have := HLT.out; constructor <;> omega
  have HDM : Hid (∀ d ∈ pre.map dF ++ [dF x], d.length = 32) := fun d hd => by
   have hl : ∀ i, (dF i).length = 32 := fun i => by rw [HDF.out i]; exact dig_len _ _
   rcases List.mem_append.1 hd with h | h
   ·obtain ⟨i, _, rfl⟩ := List.mem_map.1 h
    exact hl i
   ·rw [List.mem_singleton.1 h]; exact hl x
  clear g0 g1 g2 g3 hZ hbZ hkV
  refine wpIn_block (round_region (fun ⟨_, _, h⟩ => h) (by rfl) ?_)
  go_wp2_with (at_builtin; rw [← HZ.out]; refine wpList_pushD rfl _ _ rfl w4.heap.size v (pre.map dF) rfl HOZ.out V.heap.size (dF x) HDL.out rfl HCZ.out HEL.out HBB.out ?_; intro v' w9 hO9 hG9; obtain ⟨hcell, hfroz, HFIN⟩ := SpI.push (x := x) HR4.out.1 HR4.out.2 G0.out G1.out G2.out G3.out HOV.out HBZ.out hO9 hG9; obtain ⟨A9, c9, rfl, _, _⟩ := hO9.ds HDM.out; obtain ⟨N, hN⟩ : ∃ N, N = (pre.map dF ++ [dF x]).length := ⟨_, rfl⟩; rw [← hN] at HFIN ⊢; clear hO9 hG9 hN)
  exact HFIN.out
 case done =>
  rintro D0 O X5 rfl hI hS hd
  have hI2 := SpI.obj (r0 := r0) (by omega) X5 _ _ (.deferred none) hI (Nat.le_refl _) (Nat.le_succ _) hd rfl
  obtain ⟨_, v, g1, g2, _⟩ := hI
  have c1 : X5.cell? ⟨r0, 0, none⟩ = some v := by rw [cell_of_cells g1]; rfl
  obtain ⟨q0, v', q1, q2, _⟩ := hI2
  have e1 : v' = v := by
   rw [World.putObj_heap_other (by omega), g1] at q1
   cases q1
   rfl
  subst e1
  have hl : ∀ d ∈ (List.range (D + 1)).map dF, d.length = 32 := fun d hd => by
   obtain ⟨i, _, rfl⟩ := List.mem_map.1 hd
   rw [HDF.out i]; exact dig_len _ _
  have HQ2 := Lib.hid q2
  obtain ⟨A9, c9, rfl, _, hc9⟩ := q2.ds hl
  have HS5 : Hid (Hs (X5.putObj w4.heap.size (.deferred none)) b n (m2 + (D + 1))) := by
   have h : (X5.putObj w4.heap.size (.deferred none)).heap[b]? = X5.heap[b]? := World.putObj_heap_other (by omega)
   have h2 : Hs (X5.putObj w4.heap.size (.deferred none)) b n (m2 + (List.range (D + 1)).length) := h.trans hS
   rwa [List.length_range] at h2
  have HKF : Hid (Keep (fun i => i = b) w (X5.putObj w4.heap.size (.deferred none))) := HKW4.out.step q0 fun i hi => hi.elim .inl fun h => .inr (by omega)
  have HC9 := Lib.hid hc9
  have HD := Lib.hid hd
  have HWZ : Hid (w.heap.size ≤ w4.heap.size) := by show _ ≤ _; omega
  clear hd g1 g2 q0 q1 q2 hz4 hlt hl hc9 hS
  obtain ⟨N, hN⟩ : ∃ N, N = ((List.range (D + 1)).map dF).length := ⟨_, rfl⟩
  rw [← hN] at HC9 c1 HQ2
  have HN := Lib.hid hN
  clear hN
  go_wp2_with fail
  refine ⟨by simp, .inl ⟨_, _, rfl, run_takeDeferred HD.out, ?_⟩⟩
  exact ⟨_, results_tmp2 rfl _ _ _, A9, c9, m2 + (D + 1), by rw [HN.out]; rfl, ⟨by rw [← HN.out]; exact HC9.out, .inr (by rw [← HN.out]; exact OwnD.mono HQ2.out HWZ.out)⟩, by have := HM2.out; omega, HS5.out, HKF.out⟩
end
section
open Go.RowKit Go.Sort Go.Lib
abbrev Hh := Option Addr × Nat × Nat
def encHd (h : Hh) : Value := .slice h.1 h.2.1 h.2.2
end
section
open Go.RowKit Go.Sort
attribute [local go_sem] Oper.semAt_some
def OwnHd (w : World) (B : Nat) (v : Value) (hs : List Hh) : Prop := w.ownsRow B 22 1 v hs.length (hs.map encHd)
theorem OwnHd.nil (w : World) (B : Nat) : OwnHd w B (.slice none 0 0) [] := ⟨rfl, .inl ⟨rfl, rfl⟩⟩
structure El (B : Nat) (O : Nat → Prop) (X : World) (A : Option Addr) (c : Nat) (l : List UInt8) : Prop where
 c : l.length ≤ c
 a : BA X A l
 f : ∀ a, A = some a → B ≤ a.block ∧ ¬ O a.block ∧ ∃ cs, X.heap[a.block]? = some (.cells cs 5 (0, 0))
structure PpI (wS : World) (b r0 : Nat) (pF : Nat → List UInt8) (pre : List Nat) (O : Nat → Prop) (X : World) : Prop where
 kp : Keep (fun i => i = b ∨ i = r0) wS X
 row : ∃ v hs, X.heap[r0]? = some (.cells #[v] 149 (0, 0)) ∧ OwnHd X wS.heap.size v hs ∧ (∀ g, v.ownBlock = some g → g ≠ r0 ∧ ¬ O g) ∧ hs.length = pre.length ∧
  ∀ (i x : Nat), pre[i]? = some x → ∃ A c, hs[i]? = some (A, (pF x).length, c) ∧ El wS.heap.size O X A c (pF x)
end
section
open Go.RowKit
theorem psteps_bad (w : World) (b : Nat) (n : Int) (m : Nat) (p : Pf) (A : Option Addr) (c : Nat) (k : List UInt8) (hH : Hs w b n m) (hp : p.Ok) (hA : DS w A p.sib) (hc : p.sib.length ≤ c) (hl : p.sib.length ≤ 1000000) (h0 : chkP p ≠ 0) :
  Calls Tryz.prog 140 #[ptr b, .agg (pfC p (.slice A p.sib.length c)), .agg (bA k)] w fun e w' => ∃ A' c' m', e = .returned (.tuple #[.slice A' 0 c', .int .i64 (chkP p)]) ∧ m' ≤ m + 1000 ∧ Hs w' b n m' ∧ Keep (fun i => i = b) w w' := by
 obtain ⟨w1, hw1⟩ : ∃ w1, w1 = (w.alloc (.cells (pfC p (.slice A p.sib.length c)) 53)).alloc (.cells (bA k) 48) := ⟨_, rfl⟩
 have hB1 : Below w.heap.size w w1 := by rw [hw1]; exact ((Below.refl _ _).alloc (Nat.le_refl _) _).alloc (by simp) _
 have hP1 : PfAt w1 w.heap.size p (.slice A p.sib.length c) := by rw [hw1]; exact (Below.heap_alloc _ _ _ (by simp)).trans (heap_alloc_new _ _)
 have ld := hP1.ld hp
 rw [hw1] at ld
 have HEX := Lib.hid (pexp_bad w1 b n m p A c (hH.keep (Keep.of_below (L := fun _ => False) hB1) id) hp (hA.below hB1) hc hl h0)
 obtain ⟨z, hz⟩ : ∃ z, z = chkP p := ⟨_, rfl⟩
 rw [← hz] at HEX h0 ⊢
 have zb : (z != 0) = true := by simpa using h0
 have HW1 := Lib.hid hw1
 have HB1 := Lib.hid hB1
 clear hw1 hB1 hP1 hz h0 hH hp hA hc hl
 go_enter Tryz.func140, Tryz.ntmps140
 go_wp2_with fail
 rw [← HW1.out]
 refine HEX.out.mono ?_
 rintro _ w2 ⟨AX, cX, m2, rfl, hm2, hH2, hk2⟩
 have HM2 := Lib.hid hm2
 have HH2 := Lib.hid hH2
 have HK2 : Hid (Keep (fun i => i = b) w w2) := (Keep.of_below HB1.out).trans hk2
 clear hm2 hH2 hk2 ld HEX
 go_wp2_with fail
 go_ret2
 exact ⟨none, 0, m2, rfl, HM2.out, HH2.out, HK2.out⟩
theorem proot_ok (w : World) (b : Nat) (n : Int) (m : Nat) (p : Pf) (A : Option Addr) (c : Nat) (k : List UInt8) (hH : Hs w b n m) (hm : m ≤ 500000) (hv : Vars w) (hp : p.Ok) (hA : DS w A p.sib) (hc : p.sib.length ≤ c) (hl : p.sib.length ≤ 1000000) (hk : k.length = 32) (h0 : chkP p = 0) :
  Calls Tryz.prog 109 #[ptr b, .agg (pfC p (.slice A p.sib.length c)), .agg (bA k)] w fun e w' => ∃ m', e = .returned (.tuple #[.agg (bA (rootP n p k)), .int .i64 0]) ∧ m' ≤ m + (p.dep.toNat + 2) ∧ Hs w' b n m' ∧ Keep (fun i => i = b) w w' := by
 obtain ⟨w1, hw1⟩ : ∃ w1, w1 = ((w.alloc (.cells (pfC p (.slice A p.sib.length c)) 53)).alloc (.cells (bA k) 48)).alloc (.cells (bA z26) 47) := ⟨_, rfl⟩
 have hB1 : Below w.heap.size w w1 := by rw [hw1]; exact (((Below.refl _ _).alloc (Nat.le_refl _) _).alloc (by simp) _).alloc (by simp only [World.size_alloc]; omega) _
 have hP1 : PfAt w1 w.heap.size p (.slice A p.sib.length c) := by rw [hw1]; exact (Below.heap_alloc _ _ _ (by simp only [World.size_alloc]; omega)).trans ((Below.heap_alloc _ _ _ (by simp)).trans (heap_alloc_new _ _))
 have hK1 : w1.heap[w.heap.size + 1]? = some (.cells (bA k) 48 (0, 0)) := by rw [hw1]; exact (Below.heap_alloc _ _ _ (by simp)).trans (heap_alloc2_new w _ _)
 have hR1 : w1.heap[w.heap.size + 2]? = some (.cells (bA z26) 47 (0, 0)) := by
  rw [hw1, ← show ((w.alloc (.cells (pfC p (.slice A p.sib.length c)) 53)).alloc (.cells (bA k) 48)).heap.size = w.heap.size + 2 by simp]
  exact heap_alloc_new _ _
 have ld := hP1.ld hp
 have lk : ldA 48 w1 (.pointer (some ⟨w.heap.size + 1, 0, none⟩)) = .ok (.value (.agg (bA k))) w1 := ldA_row hK1 Tryz.underlying48 (by rw [bA_size, hk]; exact infoKey)
 rw [hw1] at ld lk
 have HEX := Lib.hid (psteps_ok w1 b n m p A c k (hH.keep (Keep.of_below (L := fun _ => False) hB1) id) hm (hv.below hB1) hp (hA.below hB1) hc hl hk h0)
 have HSL : Hid (∀ s ∈ stepL n p k, s.length = 32) := stpB_mem _ _ _ _ _ _
 have HLS : Hid ((stepL n p k)[p.dep.toNat]? = some (rootP n p k)) := stepL_last n p k
 have HRL : Hid ((rootP n p k).length = 32) := dig_len _ _
 obtain ⟨D, hD⟩ : ∃ D, D = p.dep.toNat := ⟨_, rfl⟩
 have hln : (stepL n p k).length = D + 1 := by rw [hD]; exact stepL_len
 obtain ⟨rt, hrt⟩ : ∃ rt, rt = rootP n p k := ⟨_, rfl⟩
 obtain ⟨S, hS⟩ : ∃ S, S = stepL n p k := ⟨_, rfl⟩
 rw [← hD] at HLS HEX ⊢
 rw [← hrt] at HLS HRL ⊢
 rw [← hS] at HLS HSL HEX hln
 have HW1 := Lib.hid hw1
 have HB1 := Lib.hid hB1
 have HR1 := Lib.hid hR1
 have HLN := Lib.hid hln
 have HBW : Hid (b < w.heap.size) := lt_of_heap hH
 have HD2 : Hid (D ≤ 256) := by have := (chk_kind h0).1.2.1; show D ≤ 256; omega
 clear hw1 hB1 hP1 hK1 hR1 h0 hH hp hA hc hl hv hk hm hln hrt hS hD
 go_enter Tryz.func109, Tryz.ntmps109
 go_wp2_with fail
 rw [← HW1.out]
 refine HEX.out.mono ?_
 rintro _ w2 ⟨AX, cX, m2, rfl, hN2, hm2, hH2, hk2⟩
 have HM2 := Lib.hid hm2
 have HH2 := Lib.hid hH2
 have HK2 : Hid (Keep (fun i => i = b) w w2) := (Keep.of_below HB1.out).trans hk2
 have HR2 : Hid (w2.heap[w.heap.size + 2]? = some (.cells (bA z26) 47 (0, 0))) := hk2.heap HR1.out (by have := HBW.out; show ¬ _ = b; omega)
 obtain ⟨_, g, o, rfl, h3⟩ := (hN2.ds HSL.out) D rt HLS.out
 have lx : ldA 47 w2 (.pointer (some ⟨g, o + D * 32, none⟩)) = .ok (.value (.agg (bA rt))) w2 := ldDig h3 HRL.out
 rw [HLN.out]
 have hd2 := HD2.out
 have st1 : stA 47 w2 (.pointer (some ⟨w.heap.size + 2, 0, none⟩)) (.agg (bA rt)) = .ok .skip (w2.setRow (w.heap.size + 2) (bA rt)) := stA_row HR2.out (by rw [bA_size, HRL.out]; exact info26) (by rw [bA_size, bA_size, HRL.out]; rfl) (bA_one _)
 have HM3 := Lib.hid (setRow_heap w2 (w.heap.size + 2) _ (bA rt) _ _ HR2.out)
 have HF : Hid (Hs (w2.setRow (w.heap.size + 2) (bA rt)) b n m2) := HH2.out.keep (Keep.row w2 (w.heap.size + 2) _) (by have := HBW.out; show ¬ b = _; omega)
 have HKf : Hid (Keep (fun i => i = b) w (w2.setRow (w.heap.size + 2) (bA rt))) := HK2.out.step (Keep.row w2 (w.heap.size + 2) _) fun i hi => .inr (by have e : i = w.heap.size + 2 := hi; omega)
 clear hm2 hH2 hk2 hN2 h3 ld lk HEX
 go_wp2_with fail
 refine bodyPost_ret ?_ rfl ⟨m2, rfl, HM2.out, HF.out, HKf.out⟩
 exact results_row_tmp Tryz.results109 _ _ (w.heap.size + 2) _ _ rfl rfl (run_loadVar_row (P := Tryz.prog) _ _ 47 47 (bA rt) (0, 0) _ HM3.out Tryz.underlying47 rfl (by rw [bA_size, HRL.out]; exact info26))
theorem proot_bad (w : World) (b : Nat) (n : Int) (m : Nat) (p : Pf) (A : Option Addr) (c : Nat) (k : List UInt8) (hH : Hs w b n m) (hp : p.Ok) (hA : DS w A p.sib) (hc : p.sib.length ≤ c) (hl : p.sib.length ≤ 1000000) (hk : k.length = 32) (h0 : chkP p ≠ 0) :
  Calls Tryz.prog 109 #[ptr b, .agg (pfC p (.slice A p.sib.length c)), .agg (bA k)] w fun e w' => ∃ m', e = .returned (.tuple #[.agg (bA z26), .int .i64 (chkP p)]) ∧ m' ≤ m + 1000 ∧ Hs w' b n m' ∧ Keep (fun i => i = b) w w' := by
 obtain ⟨w1, hw1⟩ : ∃ w1, w1 = ((w.alloc (.cells (pfC p (.slice A p.sib.length c)) 53)).alloc (.cells (bA k) 48)).alloc (.cells (bA z26) 47) := ⟨_, rfl⟩
 have hB1 : Below w.heap.size w w1 := by rw [hw1]; exact (((Below.refl _ _).alloc (Nat.le_refl _) _).alloc (by simp) _).alloc (by simp only [World.size_alloc]; omega) _
 have hP1 : PfAt w1 w.heap.size p (.slice A p.sib.length c) := by rw [hw1]; exact (Below.heap_alloc _ _ _ (by simp only [World.size_alloc]; omega)).trans ((Below.heap_alloc _ _ _ (by simp)).trans (heap_alloc_new _ _))
 have hK1 : w1.heap[w.heap.size + 1]? = some (.cells (bA k) 48 (0, 0)) := by rw [hw1]; exact (Below.heap_alloc _ _ _ (by simp)).trans (heap_alloc2_new w _ _)
 have hR1 : w1.heap[w.heap.size + 2]? = some (.cells (bA z26) 47 (0, 0)) := by
  rw [hw1, ← show ((w.alloc (.cells (pfC p (.slice A p.sib.length c)) 53)).alloc (.cells (bA k) 48)).heap.size = w.heap.size + 2 by simp]
  exact heap_alloc_new _ _
 have ld := hP1.ld hp
 have lk : ldA 48 w1 (.pointer (some ⟨w.heap.size + 1, 0, none⟩)) = .ok (.value (.agg (bA k))) w1 := ldA_row hK1 Tryz.underlying48 (by rw [bA_size, hk]; exact infoKey)
 rw [hw1] at ld lk
 have HEX := Lib.hid (psteps_bad w1 b n m p A c k (hH.keep (Keep.of_below (L := fun _ => False) hB1) id) hp (hA.below hB1) hc hl h0)
 obtain ⟨z, hz⟩ : ∃ z, z = chkP p := ⟨_, rfl⟩
 rw [← hz] at HEX h0 ⊢
 have bz : ∀ W : World, bldA 47 W #[] = .ok (.value (.agg (bA z26))) W := fun _ => by kernel_rfl
 have zb : (z != 0) = true := by simpa using h0
 have HW1 := Lib.hid hw1
 have HB1 := Lib.hid hB1
 have HR1 := Lib.hid hR1
 have HBW : Hid (b < w.heap.size) := lt_of_heap hH
 clear hw1 hB1 hP1 hK1 hR1 h0 hz hH hp hA hc hl hk
 go_enter Tryz.func109, Tryz.ntmps109
 go_wp2_with fail
 rw [← HW1.out]
 refine HEX.out.mono ?_
 rintro _ w2 ⟨AX, cX, m2, rfl, hm2, hH2, hk2⟩
 have HM2 := Lib.hid hm2
 have HH2 := Lib.hid hH2
 have HK2 : Hid (Keep (fun i => i = b) w w2) := (Keep.of_below HB1.out).trans hk2
 have HR2 : Hid (w2.heap[w.heap.size + 2]? = some (.cells (bA z26) 47 (0, 0))) := hk2.heap HR1.out (by have := HBW.out; show ¬ _ = b; omega)
 have st1 : stA 47 w2 (.pointer (some ⟨w.heap.size + 2, 0, none⟩)) (.agg (bA z26)) = .ok .skip (w2.setRow (w.heap.size + 2) (bA z26)) := stA_row HR2.out (by exact info26) rfl (bA_one _)
 have HM3 := Lib.hid (setRow_heap w2 (w.heap.size + 2) _ (bA z26) _ _ HR2.out)
 have HF : Hid (Hs (w2.setRow (w.heap.size + 2) (bA z26)) b n m2) := HH2.out.keep (Keep.row w2 (w.heap.size + 2) _) (by have := HBW.out; show ¬ b = _; omega)
 have HKf : Hid (Keep (fun i => i = b) w (w2.setRow (w.heap.size + 2) (bA z26))) := HK2.out.step (Keep.row w2 (w.heap.size + 2) _) fun i hi => .inr (by have e : i = w.heap.size + 2 := hi; omega)
 clear hm2 hH2 hk2 ld lk HEX
 go_wp2_with fail
 refine bodyPost_ret ?_ rfl ⟨m2, rfl, HM2.out, HF.out, HKf.out⟩
 exact results_row_tmp Tryz.results109 _ _ (w.heap.size + 2) _ _ rfl rfl (run_loadVar_row (P := Tryz.prog) _ _ 47 47 (bA z26) (0, 0) _ HM3.out Tryz.underlying47 rfl (by exact info26))
end
section
open Go.RowKit
theorem fo_c : FoV where
 steps := psteps_ok
 stepsBad := fun w b n m p A c k hH _ _ hp hA hc hl _ h0 => psteps_bad w b n m p A c k hH hp hA hc hl h0
 root := proot_ok
 rootBad := fun w b n m p A c k hH _ _ hp hA hc hl hk h0 => proot_bad w b n m p A c k hH hp hA hc hl hk h0
end
end Go.Proofs.YtjgdindjimbfeaaGreatDoor
