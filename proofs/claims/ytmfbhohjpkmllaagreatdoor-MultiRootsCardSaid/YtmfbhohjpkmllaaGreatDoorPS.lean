import Derived.Test.YtmfbhohjpkmllaaGreatDoorMF
import Derived.Test.YtmfbhohjpkmllaaGreatDoorRo
import Derived.Test.YtmfbhohjpkmllaaGreatDoorYa
import Derived.Test.YtmfbhohjpkmllaaGreatDoorTG
import Derived.Test.YtmfbhohjpkmllaaGreatDoorIF
import Derived.Test.YtmfbhohjpkmllaaGreatDoorBtCmp
import Derived.BigQuiet
import Derived.Test.YtmfbhohjpkmllaaGreatDoorJc
import Derived.Test.YtmfbhohjpkmllaaGreatDoorPA
namespace Go.Proofs.YtmfbhohjpkmllaaGreatDoor
set_option linter.unusedSimpArgs false
set_option linter.unusedVariables false
set_option maxHeartbeats 8000000
set_option maxRecDepth 100000
section
open Go.RowKit Go.Shelf
theorem search_c (f : Nat) (cap : Array Value) (n z : Nat) (p : Nat → Bool) (w : World) (hn : n ≤ 1000000) (hz : z ≤ n) (h0 : ∀ j, j < z → p j = false) (h1 : ∀ j, z ≤ j → j < n → p j = true)
  (eg : ∀ args w, (callFunc f args).run Tryz.prog w = .ok (.enter f args) w)
  (hc : ∀ X, Below w.heap.size w X → ∀ j : Nat, j < n → Calls Tryz.prog f (#[.int .i64 (j : Int)] ++ cap) X fun e Y => e = .returned (.bool (p j)) ∧ Below X.heap.size X Y) :
  Calls Tryz.prog 110 #[.int .i64 (n : Int), .func (.func f) #[] cap] w fun e w' => e = .returned (.int .i64 (z : Int)) ∧ Below w.heap.size w w' := by
 have HC := Lib.hid hc
 have H0 := Lib.hid h0
 have H1 := Lib.hid h1
 have hn9 : n ≤ 1000000 := hn
 have hz9 : z ≤ n := hz
 clear hc h0 h1 hn hz
 go_enter Tryz.func110, Tryz.ntmps110
 go_wp2_with fail
 go_loopg [5, 6] n (fun gg iv jv wr => ∃ i j : Nat, iv = .int .i64 (i : Int) ∧ jv = .int .i64 (j : Int) ∧ i ≤ z ∧ z ≤ j ∧ j ≤ n ∧ j - i = gg ∧ Below w.heap.size w wr)
 case atStart => exact ⟨0, n, rfl, rfl, by omega, by omega, by omega, by omega, Below.refl _ _⟩
 case round =>
  obtain ⟨i, j, rfl, rfl, hi, hj, hjn, rfl, hB⟩ := hrel
  have HB := Lib.hid hB
  clear hB
  by_cases hlt : i < j
  ·have hd : decide (i < j) = true := decide_eq_true hlt
   have p0 : (0 : Int) ≤ (i : Int) := by omega
   have p1 : (i : Int) + (j : Int) ≤ 2000000 := by omega
   have pj : (0 : Int) ≤ (j : Int) := by omega
   go_wp2_with fail
   have e2 : ((i : Int) + (j : Int)) / 2 = (((i + j) / 2 : Nat) : Int) := by omega
   rw [e2]
   obtain ⟨h, hh⟩ : ∃ h, h = (i + j) / 2 := ⟨_, rfl⟩
   rw [← hh]
   have hhj : h < j := by omega
   have hih : i ≤ h := by omega
   refine (HC.out wr HB.out h (by omega)).mono ?_
   rintro _ w5 ⟨rfl, hB5⟩
   have HB5 := Lib.hid (HB.out.trans (hB5.mono HB.out.size))
   clear hB5 e2 hh p1
   cases hp : p h with
   | false =>
    have hlz : h < z := Classical.byContradiction fun hn => by
     have := H1.out h (by omega) (by omega)
     rw [hp] at this
     cases this
    clear hp
    go_wp2_with fail
    go_roundg (j - (h + 1))
    case measure => omega
    case rel => exact ⟨h + 1, j, by go_num, rfl, by omega, by omega, by omega, rfl, HB5.out⟩
   | true =>
    have hlz : z ≤ h := Classical.byContradiction fun hn => by
     have := H0.out h (by omega)
     rw [hp] at this
     cases this
    clear hp
    go_wp2_with fail
    go_roundg (h - i)
    case measure => omega
    case rel => exact ⟨i, h, rfl, rfl, by omega, by omega, by omega, rfl, HB5.out⟩
  ·have hd : decide (i < j) = false := decide_eq_false (by omega)
   have hiz : i = z := by omega
   subst hiz
   clear hlt
   go_wp2_with fail
   go_ret
   exact ⟨rfl, HB.out⟩
theorem split1_c (b1 b2 : Nat) (A : Option Addr) (c : Nat) (ks : List (List UInt8)) (d j : Nat) (k : List UInt8) (w : World) (hA : KS w A ks) (hk : ks[j]? = some k) (hd : d < 256)
  (h1 : w.cell? ⟨b1, 0, none⟩ = some (.slice A ks.length c)) (h2 : w.cell? ⟨b2, 0, none⟩ = some (.int .i64 (d : Int))) :
  Calls Tryz.prog 111 #[.int .i64 (j : Int), .pointer (some ⟨b1, 0, none⟩), .pointer (some ⟨b2, 0, none⟩)] w fun e w' => e = .returned (.bool (decide (bitK k d = 1))) ∧ Below w.heap.size w w' := by
 obtain ⟨hkl, g, o, rfl, hr⟩ := hA j k hk
 have hj := (List.getElem?_eq_some_iff.1 hk).1
 obtain ⟨N, hN⟩ : ∃ N, N = ks.length := ⟨_, rfl⟩
 rw [← hN] at hj h1
 have c1 : ∀ z : Later w, z.w.cell? ⟨b1, 0, none⟩ = some (.slice (some ⟨g, o, none⟩) N c) := fun z => by rw [z.h.cell (p := ⟨b1, 0, none⟩) (lt_of_cell h1)]; exact h1
 have c2 : ∀ z : Later w, z.w.cell? ⟨b2, 0, none⟩ = some (.int .i64 (d : Int)) := fun z => by rw [z.h.cell (p := ⟨b2, 0, none⟩) (lt_of_cell h2)]; exact h2
 have la : ∀ z : Later w, ldA 39 z.w (.pointer (some ⟨g, o + j * 32, none⟩)) = .ok (.value (.agg (bA k))) z.w := fun z => range_keyS (range_below hr z.h) hkl
 have p0 : (0 : Int) ≤ (j : Int) := by omega
 have p1 : (j : Int) < (N : Int) := by omega
 have HKL := Lib.hid hkl
 have HBT : Hid (∀ z, Calls Tryz.prog 77 #[.agg (bA k), .int .i64 (d : Int)] z fun e w' => e = .returned (.int .i64 (bitK k d)) ∧ Below z.heap.size z w') := fun z => pbitK_c k hkl (d : Int) z
 rcases bitK_01 k d hd with hb | hb
 ·rw [hb] at HBT
  rw [decide_eq_false (by rw [hb]; decide)]
  clear hA hk hr hkl hN h1 h2 hb
  go_enter Tryz.func111, Tryz.ntmps111
  go_wp2_with fail
  refine wp_region_later (by kernel_rfl) (by kernel_rfl) ?_
  repeat (go_big_quiet_step ((go_at_call 77; exact Later.call (HBT.out _))))
  refine wpQuiet_nil ?_
  rintro _ ⟨z, rfl⟩
  clear c1 c2 la
  go_wp2_with fail
  go_ret
  exact ⟨rfl, z.h⟩
 ·rw [hb] at HBT
  rw [decide_eq_true hb]
  clear hA hk hr hkl hN h1 h2 hb
  go_enter Tryz.func111, Tryz.ntmps111
  go_wp2_with fail
  refine wp_region_later (by kernel_rfl) (by kernel_rfl) ?_
  repeat (go_big_quiet_step ((go_at_call 77; exact Later.call (HBT.out _))))
  refine wpQuiet_nil ?_
  rintro _ ⟨z, rfl⟩
  clear c1 c2 la
  go_wp2_with fail
  go_ret
  exact ⟨rfl, z.h⟩
end
section
open Go.RowKit
def cutW (s : Nat) (A : Option Addr) (m l : Nat) : Option Addr := if m = l then A else A.map (·.add (l * s))
theorem elemKw : Tryz.prog.elem 23 = 39 := by kernel_rfl
theorem slKw : Tryz.prog.underlying 23 = some (.slice (Tryz.prog.elem 23)) := by rw [elemKw]; exact Tryz.underlying23
theorem sizeKw (w : World) : (sizeOf 39).run Tryz.prog w = .ok 32 w := by
 obtain ⟨i, hi, hs⟩ := Option.map_eq_some_iff.1 (show (Tryz.prog.info? 39).map (·.size) = some 32 by kernel_rfl)
 simp [sizeOf, typeInfo, hi, hs]
theorem cutKw_lhm (A : Option Addr) (len c l n : Nat) (h1 : l ≤ n) (h2 : n ≤ c) (w : World) :
  (Instr.sliceAt 23 (.slice A len c) (some (.int .i64 (l : Int))) (some (.int .i64 (n : Int))) (some (.int .i64 (n : Int)))).run Tryz.prog w = .ok (.slice (cutW 32 A n l) (n - l) (n - l)) w := by
 rw [run_sliceAt_slice w 23 _ _ _ _ slKw, run_slice_lhm w 23 A len c slKw .i64 .i64 .i64 (l : Int) (n : Int) (n : Int) (by omega) (by omega) (by omega) (by omega), elemKw, sizeKw]
 simp [sliced, cutW]
theorem cutKw_hm (A : Option Addr) (len c n : Nat) (h2 : n ≤ c) (w : World) :
  (Instr.sliceAt 23 (.slice A len c) none (some (.int .i64 (n : Int))) (some (.int .i64 (n : Int)))).run Tryz.prog w = .ok (.slice (cutW 32 A n 0) n n) w := by
 rw [run_sliceAt_slice w 23 _ _ _ _ slKw, run_slice_hm w 23 A len c slKw .i64 .i64 (n : Int) (n : Int) (by omega) (by omega) (by omega), elemKw, sizeKw]
 simp [sliced, cutW]
theorem KS.cutD {w : World} {A : Option Addr} {ks : List (List UInt8)} (h : KS w A ks) (l : Nat) : KS w (cutW 32 A ks.length l) (ks.drop l) := fun i k hi => by
 rw [List.getElem?_drop] at hi
 have hlt := (List.getElem?_eq_some_iff.1 hi).1
 obtain ⟨h1, g, o, rfl, h2⟩ := h _ _ hi
 unfold cutW
 rw [if_neg (by omega)]
 exact ⟨h1, g, o + l * 32, by rw [Option.map_some, add_none], by rw [show o + l * 32 + i * 32 = o + (l + i) * 32 by omega]; exact h2⟩
theorem KS.cutT {w : World} {A : Option Addr} {ks : List (List UInt8)} (h : KS w A ks) (n : Nat) : KS w (cutW 32 A n 0) (ks.take n) := fun i k hi => by
 rw [List.getElem?_take] at hi
 split at hi
 ·obtain ⟨h1, g, o, rfl, h2⟩ := h _ _ hi
  unfold cutW
  rw [if_neg (by omega)]
  exact ⟨h1, g, o, by rw [Option.map_some, add_none]; simp, h2⟩
 ·cases hi
end
section
open Go.RowKit Go.Shelf
theorem key_cut {d : Nat} (h1 : d < 256) : ∀ (ks : List (List UInt8)), AscS ks → (∀ a ∈ ks, ∀ b ∈ ks, ∀ i : Nat, i < d → bitK a i = bitK b i) →
  ks.take (side0 ks d).length = side0 ks d ∧ ks.drop (side0 ks d).length = side1 ks d
 | [], _, _ => ⟨rfl, rfl⟩
 | c :: r, hs, he => by
  obtain ⟨hs1, hs2⟩ := List.pairwise_cons.1 hs
  obtain ⟨i1, i2⟩ := key_cut h1 r hs2 fun a ha x hx => he a (by simp [ha]) x (by simp [hx])
  rcases bitK_01 c d h1 with h0 | h0
  ·have e0 : side0 (c :: r) d = c :: side0 r d := List.filter_cons_of_pos (by simp [h0])
   have e1 : side1 (c :: r) d = side1 r d := List.filter_cons_of_neg (by simp [h0])
   rw [e0, e1, List.length_cons, List.take_succ_cons, List.drop_succ_cons, i1, i2]
   exact ⟨rfl, rfl⟩
  ·have hall : ∀ x ∈ r, bitK x d = 1 := fun x hx => by
    obtain ⟨i, hi, hlt, g0, g1⟩ := hs1 x hx
    rcases bitK_01 x d h1 with hx0 | hx1
    ·exfalso
     by_cases hid : i < d
     ·have := he c (by simp) x (by simp [hx]) i hid
      omega
     ·by_cases hde : d = i
      ·subst hde; omega
      ·have := hlt d (by omega); omega
    ·exact hx1
   have e0 : side0 (c :: r) d = [] := by
    refine List.filter_eq_nil_iff.2 fun x hx => ?_
    rcases List.mem_cons.1 hx with rfl | hx
    ·simp [h0]
    ·simp [hall x hx]
   have e1 : side1 (c :: r) d = c :: r := by
    refine List.filter_eq_self.2 fun x hx => ?_
    rcases List.mem_cons.1 hx with rfl | hx
    ·simpa using h0
    ·simpa using hall x hx
   rw [e0, e1]
   exact ⟨rfl, rfl⟩
theorem sides_len (ks : List (List UInt8)) (d : Nat) : (side0 ks d).length + (side1 ks d).length = ks.length := by
 induction ks with
 | nil => rfl
 | cons c r ih =>
  by_cases h : bitK c d = 1
  ·have e0 : side0 (c :: r) d = side0 r d := List.filter_cons_of_neg (by simp [h])
   have e1 : side1 (c :: r) d = c :: side1 r d := List.filter_cons_of_pos (by simp [h])
   rw [e0, e1, List.length_cons, List.length_cons]; omega
  ·have e0 : side0 (c :: r) d = c :: side0 r d := List.filter_cons_of_pos (by simp [h])
   have e1 : side1 (c :: r) d = side1 r d := List.filter_cons_of_neg (by simp [h])
   rw [e0, e1, List.length_cons, List.length_cons]; omega
structure Bel (ks : List (List UInt8)) (d : Nat) : Prop where
 asc : AscS ks
 eq : ∀ a ∈ ks, ∀ b ∈ ks, ∀ i : Nat, i < d → bitK a i = bitK b i
theorem Bel.left {ks : List (List UInt8)} {d : Nat} (h : Bel ks d) (hd : d < 256) : Bel (side0 ks d) (d + 1) :=
 ⟨List.Pairwise.filter _ h.asc, fun a ha b hb i hi => by
  obtain ⟨h1, h2⟩ := mem_side0.1 ha
  obtain ⟨h3, h4⟩ := mem_side0.1 hb
  by_cases hid : i < d
  ·exact h.eq a h1 b h3 i hid
  ·obtain rfl : i = d := by omega
   have := bitK_01 a i hd
   have := bitK_01 b i hd
   omega⟩
theorem Bel.right {ks : List (List UInt8)} {d : Nat} (h : Bel ks d) : Bel (side1 ks d) (d + 1) :=
 ⟨List.Pairwise.filter _ h.asc, fun a ha b hb i hi => by
  obtain ⟨h1, h2⟩ := mem_side1.1 ha
  obtain ⟨h3, h4⟩ := mem_side1.1 hb
  by_cases hid : i < d
  ·exact h.eq a h1 b h3 i hid
  ·obtain rfl : i = d := by omega
   omega⟩
theorem Bel.root {ks : List (List UInt8)} (hk : K32 ks) (h : chkK ks = 0) : Bel ks 0 := ⟨chk_asc ks hk h, fun _ _ _ _ i hi => absurd hi (Nat.not_lt_zero i)⟩
theorem KS.k32 {w : World} {A : Option Addr} {ks : List (List UInt8)} (h : KS w A ks) : K32 ks := fun k hk => by
 obtain ⟨i, hi⟩ := List.getElem?_of_mem hk
 exact (h i k hi).1
theorem ksplit_c (A : Option Addr) (c : Nat) (ks : List (List UInt8)) (d : Nat) (w : World) (hA : KS w A ks) (hd : d < 256) (hn : ks.length ≤ 100000) (hb : Bel ks d) :
  Calls Tryz.prog 90 #[.slice A ks.length c, .int .i64 (d : Int)] w fun e w' => e = .returned (.int .i64 ((side0 ks d).length : Int)) ∧ Below w.heap.size w w' := by
 obtain ⟨s1, s2⟩ := key_cut hd ks hb.asc hb.eq
 have hsl := sides_len ks d
 obtain ⟨N, hN⟩ : ∃ N, N = ks.length := ⟨_, rfl⟩
 obtain ⟨z, hz⟩ : ∃ z, z = (side0 ks d).length := ⟨_, rfl⟩
 obtain ⟨X, hX⟩ : ∃ X, X = (w.alloc (.cells #[.slice A N c] 23)).alloc (.cells #[.int .i64 (d : Int)] 3) := ⟨_, rfl⟩
 have hbX : Below w.heap.size w X := by rw [hX]; exact ((Below.refl _ _).alloc (Nat.le_refl _) _).alloc (by simp) _
 have h1 : X.cell? ⟨w.heap.size, 0, none⟩ = some (.slice A N c) := by rw [hX, cell_of_cells (heap_alloc2_old w _ _)]; rfl
 have h2 : X.cell? ⟨w.heap.size + 1, 0, none⟩ = some (.int .i64 (d : Int)) := by rw [hX, cell_of_cells (heap_alloc2_new w _ _)]; rfl
 have HSR : Hid (Calls Tryz.prog 110 #[.int .i64 (N : Int), .func (.func 111) #[] #[.pointer (some ⟨w.heap.size, 0, none⟩), .pointer (some ⟨w.heap.size + 1, 0, none⟩)]] X fun e w' => e = .returned (.int .i64 (z : Int)) ∧ Below X.heap.size X w') := by
  refine search_c 111 _ N z (fun j => decide (bitK ((ks[j]?).getD []) d = 1)) X (by omega) (by omega) (fun j hj => ?_) (fun j hj hjn => ?_) (enters_of Tryz.func111 (by kernel_rfl) rfl) (fun Y hY j hj => ?_)
  ·have hm : ks[j]? = (side0 ks d)[j]? := by rw [← s1, List.getElem?_take, if_pos (by omega)]
   obtain ⟨x, hx⟩ : ∃ x, (side0 ks d)[j]? = some x := ⟨_, List.getElem?_eq_getElem (by omega)⟩
   show decide (bitK ((ks[j]?).getD []) d = 1) = false
   rw [hm, hx]
   exact decide_eq_false (mem_side0.1 (List.mem_of_getElem? hx)).2
  ·have hm : ks[j]? = (side1 ks d)[j - z]? := by rw [← s2, List.getElem?_drop, ← hz, show z + (j - z) = j by omega]
   obtain ⟨x, hx⟩ : ∃ x, (side1 ks d)[j - z]? = some x := ⟨_, List.getElem?_eq_getElem (by omega)⟩
   show decide (bitK ((ks[j]?).getD []) d = 1) = true
   rw [hm, hx]
   exact decide_eq_true (mem_side1.1 (List.mem_of_getElem? hx)).2
  ·obtain ⟨k, hk⟩ : ∃ k, ks[j]? = some k := ⟨_, List.getElem?_eq_getElem (by omega)⟩
   have := split1_c w.heap.size (w.heap.size + 1) A c ks d j k Y ((hA.below hbX).below hY) hk hd (by rw [hY.cell (p := ⟨w.heap.size, 0, none⟩) (lt_of_cell h1), h1, hN]) (by rw [hY.cell (p := ⟨w.heap.size + 1, 0, none⟩) (lt_of_cell h2), h2])
   show Calls _ _ _ _ fun e w' => e = .returned (.bool (decide (bitK ((ks[j]?).getD []) d = 1))) ∧ _
   rw [hk]
   exact this
 have HX := Lib.hid hX
 have HBX := Lib.hid hbX
 rw [← hN, ← hz]
 clear s1 s2 hsl hN hz hX hbX h1 h2 hA hn hb
 go_enter Tryz.func90, Tryz.ntmps90
 go_wp2_with fail
 rw [← HX.out]
 refine HSR.out.mono ?_
 rintro _ w1 ⟨rfl, hB1⟩
 have HB1 := Lib.hid (HBX.out.trans (hB1.mono HBX.out.size))
 clear hB1
 go_wp2_with fail
 go_ret
 exact ⟨rfl, HB1.out⟩
end
section
open Go.RowKit
theorem cmpP12_c (a b : List UInt8) (ha : a.length = 32) (hb : b.length = 32) (w : World) : Calls Tryz.prog 67 #[.agg (bA a), .agg (bA b)] w fun e w' => e = .returned (.int .i64 (cmpK a b)) ∧ Below w.heap.size w w' := by
 rw [bA_key a ha, bA_key b hb]
 exact Bt.compare_c (keyF a) (keyF b) (keyF_byt a) (keyF_byt b) w
theorem pcheck_c (A : Option Addr) (c : Nat) (ks : List (List UInt8)) (w : World) (hA : KS w A ks) (hn : ks.length ≤ 100000) :
  Calls Tryz.prog 40 #[.slice A ks.length c] w fun e w' => e = .returned (.int .i64 (chkK ks)) ∧ Below w.heap.size w w' := by
 have HA := Lib.hid hA
 obtain ⟨N, hN⟩ : ∃ N, N = ks.length := ⟨_, rfl⟩
 obtain ⟨R, hR⟩ : ∃ R, R = chkK ks := ⟨_, rfl⟩
 have HN := Lib.hid hN
 have HR0 : Hid (chkK (ks.drop 0) = R) := by rw [hR]; rfl
 rw [← hN, ← hR]
 have hn9 : N ≤ 100000 := by omega
 clear hA hn hN hR
 go_enter Tryz.func40, Tryz.ntmps40
 go_wp2_with fail
 go_loopg [3] N (fun gg i wr => ∃ j : Nat, i = .int .i64 ((j : Int) + 1) ∧ j ≤ N ∧ N - j = gg ∧ Hid (chkK (ks.drop j) = R) ∧ Below w.heap.size w wr)
 case atStart => exact ⟨0, rfl, by omega, rfl, HR0.out, Below.refl _ _⟩
 case round =>
  obtain ⟨j, rfl, hj, rfl, HRR, hB⟩ := hrel
  have HB := Lib.hid hB
  clear hB
  by_cases hlt : j + 1 < N
  ·have hd : decide ((j : Int) + 1 < (N : Int)) = true := decide_eq_true (by omega)
   obtain ⟨a, ha⟩ : ∃ a, ks[j]? = some a := ⟨_, List.getElem?_eq_getElem (by have := HN.out; omega)⟩
   obtain ⟨b, hb⟩ : ∃ b, ks[j + 1]? = some b := ⟨_, List.getElem?_eq_getElem (by have := HN.out; omega)⟩
   obtain ⟨hka, g, o, hA1, hra⟩ := HA.out j a ha
   obtain ⟨hkb, g2, o2, hA2, hrb⟩ := HA.out (j + 1) b hb
   rw [hA1] at hA2
   cases hA2
   subst hA1
   have HRA := Lib.hid (range_below hra HB.out)
   have HRB := Lib.hid (range_below hrb HB.out)
   have HKA := Lib.hid hka
   have HKB := Lib.hid hkb
   have HDT : Hid (ks.drop j = a :: b :: ks.drop (j + 2)) := drop_two ha hb
   have HD1 : Hid (ks.drop (j + 1) = b :: ks.drop (j + 2)) := by
    show _ = _
    have := HDT.out
    rw [← List.drop_drop, this]
    rfl
   have l1 : ∀ q : Later wr, ldA 39 q.w (.pointer (some ⟨g, o + j * 32, none⟩)) = .ok (.value (.agg (bA a))) q.w := fun q => range_keyS (range_below HRA.out q.h) HKA.out
   have l2 : ∀ q : Later wr, ldA 39 q.w (.pointer (some ⟨g, o + (j + 1) * 32, none⟩)) = .ok (.value (.agg (bA b))) q.w := fun q => range_keyS (range_below HRB.out q.h) HKB.out
   have p0 : (0 : Int) ≤ (j : Int) := by omega
   have p1 : (j : Int) < (N : Int) := by omega
   have p2 : (0 : Int) ≤ (j : Int) + 1 := by omega
   have p3 : (j : Int) + 1 < (N : Int) := by omega
   clear ha hb hra hrb hka hkb
   go_wp2_with fail
   refine wp_region_later (by kernel_rfl) (by kernel_rfl) ?_
   repeat (go_big_quiet_step ((go_at_call 67; exact Later.call (cmpP12_c _ _ HKA.out HKB.out _))))
   refine wpQuiet_nil ?_
   rintro _ ⟨x, rfl⟩
   have HB2 := Lib.hid (HB.out.trans (x.h.mono HB.out.size))
   clear l1 l2
   have HCH : Hid (R = if cmpK a b = 0 then 9 else if 0 < cmpK a b then 8 else chkK (ks.drop (j + 1))) := by
    show R = _
    rw [← HRR.out, HDT.out, HD1.out]
    rfl
   rcases cmpK_range a b with hc | hc | hc
   ·rw [hc] at HCH ⊢
    have HF : Hid (chkK (ks.drop (j + 1)) = R) := by show _ = _; rw [HCH.out]; rfl
    clear HCH hc
    go_wp2_with fail
    go_roundg (N - (j + 1))
    case measure => omega
    case rel => exact ⟨j + 1, by go_num, by omega, rfl, HF.out, HB2.out⟩
   ·rw [hc] at HCH ⊢
    have HF : Hid (R = 9) := by show _ = _; rw [HCH.out]; rfl
    clear HCH hc
    go_wp2_with fail
    go_ret
    exact ⟨by rw [HF.out]; rfl, HB2.out⟩
   ·rw [hc] at HCH ⊢
    have HF : Hid (R = 8) := by show _ = _; rw [HCH.out]; rfl
    clear HCH hc
    go_wp2_with fail
    go_ret
    exact ⟨by rw [HF.out]; rfl, HB2.out⟩
  ·have hd : decide ((j : Int) + 1 < (N : Int)) = false := decide_eq_false (by omega)
   have HF : Hid (R = 0) := by show _ = _; rw [← HRR.out]; exact chk_few (by have := HN.out; omega)
   go_wp2_with fail
   go_ret
   exact ⟨by rw [HF.out]; rfl, HB.out⟩
end
section
open Go.RowKit
theorem pkeys19_c (w : World) (ks : List (List UInt8)) (A : Option Addr) (c : Nat) (hA : KS w A ks) (hn : ks.length ≤ 100000) :
  Calls Tryz.prog 14 #[.slice A ks.length c] w fun e w' => e = .returned (.int .i64 (keysI ks)) ∧ Below w.heap.size w w' := by
 obtain ⟨z, hz⟩ : ∃ z, z = keysI ks := ⟨_, rfl⟩
 rw [← hz]
 have HZ := Lib.hid hz
 have HC := Lib.hid (pcheck_c A c ks w hA hn)
 by_cases h0 : ks = []
 ·have HZV : Hid (z = 10) := HZ.out.trans (by unfold keysI; rw [if_pos h0])
  subst h0
  clear hz hA hn HC
  go_enter Tryz.func14, Tryz.ntmps14
  go_wp2_with fail
  go_ret
  exact ⟨z_ret HZV.out, Below.refl _ _⟩
 have hne : ¬ ks.length = 0 := fun h => h0 (List.length_eq_zero_iff.1 h)
 by_cases hb : 65535 < ks.length
 ·have HZV : Hid (z = 11) := HZ.out.trans (by unfold keysI; rw [if_neg h0, if_pos hb])
  obtain ⟨N, hN⟩ : ∃ N, N = ks.length := ⟨_, rfl⟩
  rw [← hN] at hb hne ⊢
  have d0 : ((N : Int) == 0) = false := by simp; omega
  have d1 : decide ((65535 : Int) < (N : Int)) = true := decide_eq_true (by omega)
  clear hz hA hn HC hb h0 hN
  go_enter Tryz.func14, Tryz.ntmps14
  go_wp2_with fail
  go_ret
  exact ⟨z_ret HZV.out, Below.refl _ _⟩
 ·have HZV : Hid (z = chkK ks) := HZ.out.trans (by unfold keysI; rw [if_neg h0, if_neg hb])
  obtain ⟨q, hq⟩ : ∃ q, q = chkK ks := ⟨_, rfl⟩
  obtain ⟨N, hN⟩ : ∃ N, N = ks.length := ⟨_, rfl⟩
  rw [← hN] at hb hne HC ⊢
  have d0 : ((N : Int) == 0) = false := by simp; omega
  have d1 : decide ((65535 : Int) < (N : Int)) = false := decide_eq_false (by omega)
  rw [← hq] at HC HZV
  clear hz hA hn hb h0 hq hN
  go_enter Tryz.func14, Tryz.ntmps14
  go_wp2_with fail
  refine HC.out.mono ?_
  rintro _ w2 ⟨rfl, hb2⟩
  have HB2 := Lib.hid hb2
  clear hb2 HC
  go_wp2_with fail
  go_ret
  exact ⟨z_ret HZV.out, HB2.out⟩
theorem divide19_c (A : Option Addr) (c : Nat) (ks : List (List UInt8)) (d : Nat) (w0 w : World) (hA0 : KS w0 A ks) (hA : KS w A ks) (hc : ks.length ≤ c) (hd : d < 256) (hn : ks.length ≤ 100000) (hb : Bel ks d) :
  Calls Tryz.prog 63 #[.slice A ks.length c, .int .i64 (d : Int)] w fun e w' => ∃ A0 A1 c0 c1, e = .returned (.tuple #[.slice A0 (side0 ks d).length c0, .slice A1 (side1 ks d).length c1]) ∧ KS w0 A0 (side0 ks d) ∧ KS w0 A1 (side1 ks d) ∧ (side0 ks d).length ≤ c0 ∧ (side1 ks d).length ≤ c1 ∧ Below w.heap.size w w' := by
 obtain ⟨s1, s2⟩ := key_cut hd ks hb.asc hb.eq
 have hsl := sides_len ks d
 have HSP := Lib.hid (ksplit_c A c ks d w hA hd hn hb)
 have hK0 : KS w0 (cutW 32 A (side0 ks d).length 0) (side0 ks d) := by have := hA0.cutT (side0 ks d).length; rwa [s1] at this
 have hK1 : KS w0 (cutW 32 A ks.length (side0 ks d).length) (side1 ks d) := by have := hA0.cutD (side0 ks d).length; rwa [s2] at this
 obtain ⟨z, hz⟩ : ∃ z, z = (side0 ks d).length := ⟨_, rfl⟩
 obtain ⟨N, hN⟩ : ∃ N, N = ks.length := ⟨_, rfl⟩
 obtain ⟨y, hy⟩ : ∃ y, y = (side1 ks d).length := ⟨_, rfl⟩
 rw [← hz, ← hy, ← hN] at hsl
 have hs := cutKw_hm A N c z (by omega)
 have hs1 := cutKw_lhm A N c z N (by omega) (by omega)
 rw [show N - z = y by omega] at hs1
 rw [← hN, ← hz] at HSP hK1
 rw [← hz] at hK0
 rw [← hN, ← hz, ← hy]
 obtain ⟨B0, hB0⟩ : ∃ B0, B0 = cutW 32 A z 0 := ⟨_, rfl⟩
 obtain ⟨B1, hB1⟩ : ∃ B1, B1 = cutW 32 A N z := ⟨_, rfl⟩
 rw [← hB0] at hs hK0
 rw [← hB1] at hs1 hK1
 have HK0 := Lib.hid hK0
 have HK1 := Lib.hid hK1
 clear s1 s2 hsl hA0 hA hc hd hn hb hK0 hK1 hz hN hy hB0 hB1
 go_enter Tryz.func63, Tryz.ntmps63
 go_wp2_with fail
 refine HSP.out.mono ?_
 rintro _ w2 ⟨rfl, hb2⟩
 have HB2 := Lib.hid hb2
 clear hb2 HSP
 go_wp2_with fail
 refine wp_region_later (by kernel_rfl) (by kernel_rfl) ?_
 repeat (go_big_quiet_step (fail))
 refine wpQuiet_nil ?_
 rintro _ ⟨q, rfl⟩
 have HB3 := Lib.hid (HB2.out.trans (q.h.mono HB2.out.size))
 go_wp2_with fail
 go_ret2
 exact ⟨_, _, _, _, rfl, HK0.out, HK1.out, Nat.le_refl _, Nat.le_refl _, HB3.out⟩
theorem pchk19_c (w : World) (l : List It) (A : Option Addr) (c : Nat) (hA : IA w A l) (hc : l.length ≤ c) (hl : l.length ≤ 1000000) :
  Calls Tryz.prog 18 #[.slice A l.length c] w fun e w' => e = .returned (.int .i64 (chkI l)) ∧ Below w.heap.size w w' := by
 have HR : Hid (Calls Tryz.prog 45 #[.slice A l.length c] w fun e w' => ∃ v, e = .returned (.tuple #[v, .int .i64 (chkI l)]) ∧ Below w.heap.size w w') := by
  show Calls _ _ _ _ _
  by_cases h : chkI l = 0
  ·obtain ⟨t, ht, rfl⟩ := chkI_ok.1 h
   rw [h]
   exact (read_ok t A c w ht hA hc hl).mono fun _ _ ⟨_, _, h1, _, h2⟩ => ⟨_, h1, h2⟩
  ·exact (read_bad l A c w hA hc hl h).mono fun _ _ ⟨h1, h2⟩ => ⟨_, h1, h2⟩
 obtain ⟨z, hz⟩ : ∃ z, z = chkI l := ⟨_, rfl⟩
 rw [← hz] at HR ⊢
 clear hA hc hl hz
 go_enter Tryz.func18, Tryz.ntmps18
 go_wp2_with fail
 refine HR.out.mono ?_
 rintro _ w2 ⟨v, rfl, hb2⟩
 have HB2 := Lib.hid hb2
 clear hb2 HR
 go_wp2_with fail
 go_ret
 exact ⟨rfl, HB2.out⟩
end
end Go.Proofs.YtmfbhohjpkmllaaGreatDoor
