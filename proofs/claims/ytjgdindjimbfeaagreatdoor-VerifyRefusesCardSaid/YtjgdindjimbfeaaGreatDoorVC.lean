import Derived.Test.YtjgdindjimbfeaaGreatDoorVA
import Derived.Test.YtjgdindjimbfeaaGreatDoorME
import Derived.Test.YtjgdindjimbfeaaGreatDoorVH
namespace Go.Proofs.YtjgdindjimbfeaaGreatDoor
set_option linter.unusedSimpArgs false
set_option linter.unusedVariables false
set_option maxHeartbeats 8000000
set_option maxRecDepth 100000
section
open Go.RowKit
theorem sl_all17 {t n : Nat} (hu : Tryz.prog.underlying t = some (.array n 5)) (hn : Tryz.prog.arrayLen t = n) (he : Tryz.prog.elem t = 5) (g o : Nat) (w : World) :
  (Instr.sliceAt t (.pointer (some ⟨g, o, none⟩)) none none none).run Tryz.prog w = .ok (.slice (some ⟨g, o, none⟩) n n) w := by
 rw [run_sliceAt_array_all w t _ (by rw [hn, he]; exact hu), he, size5, hn]
 simp [slicedAt, add_none]
theorem ba_range {w : World} {g o : Nat} {l : List UInt8} (h : w.rangeAt g o (l.map bv)) : BA w (some ⟨g, o, none⟩) l := fun j x hx => ⟨g, o, rfl, h j (bv x) (by rw [List.getElem?_map, hx]; rfl)⟩
theorem own_four (w : World) (a b c d : UInt8) : OwnB (w.alloc (.cells #[bv a, bv b, bv c, bv d] 5)) w.heap.size (.slice (some ⟨w.heap.size, 0, none⟩) 4 4) [a, b, c, d] :=
 ⟨rfl, .inr ⟨w.heap.size, 4, #[bv a, bv b, bv c, bv d], rfl, Nat.le_refl _, heap_alloc_new w _, Nat.le_refl _, by unfold maxLen; omega, rfl, rfl⟩⟩
theorem bv_ofNat {n : Nat} (h : n < 256) (z : Int) (hz : z = (n : Int)) : Value.int .u8 z = bv (UInt8.ofNat n) := by
 subst hz
 unfold bv
 rw [UInt8.toNat_ofNat', Nat.mod_eq_of_lt h]
end
section
open Go.RowKit
theorem chkP_ok17 {p : Pf} (h : chkP p = 0) : (p.kind = 0 ∨ p.kind = 1) ∧ 0 ≤ p.dep ∧ p.dep ≤ 256 ∧ p.sib.length ≤ 256 := by
 rcases chkP_cases p with ⟨h1, _⟩ | ⟨hk, ⟨h1, _⟩ | ⟨_, h2, h3, h4, h5, _⟩⟩
 ·omega
 ·omega
 ·have := setZ_le17 (keyF p.bm) 256
  exact ⟨hk, by omega, by omega, by omega⟩
theorem pencodeBad17_c (w : World) (p : Pf) (A : Option Addr) (c : Nat) (hp : p.Ok) (hA : DS w A p.sib) (hc : p.sib.length ≤ c) (hl : p.sib.length ≤ 1000000) (hz0 : chkP p ≠ 0) :
  Calls Tryz.prog 27 #[.agg (pfC p (.slice A p.sib.length c))] w fun e w' => ∃ A' c', e = .returned (.tuple #[.slice A' 0 c', .int .i64 (chkP p)]) ∧ Below w.heap.size w w' := by
 obtain ⟨X, hX⟩ : ∃ X, X = w.alloc (.cells (pfC p (.slice A p.sib.length c)) 53) := ⟨_, rfl⟩
 have hB : Below w.heap.size w X := by rw [hX]; exact Bt.one_below _ _
 have hP : PfAt X w.heap.size p (.slice A p.sib.length c) := by rw [hX]; exact PfAt.one _ _ _
 have lx := hP.ld hp
 rw [hX] at lx
 have HCK := Lib.hid (pcheck_c X p A c hp (hA.below hB) hc hl)
 have HX := Lib.hid hX
 have HB := Lib.hid hB
 obtain ⟨z, hz⟩ : ∃ z, z = chkP p := ⟨_, rfl⟩
 rw [← hz] at HCK hz0 ⊢
 clear hX hB hP hA hc hl hp hz
 go_enter Tryz.func27, Tryz.ntmps27
 go_wp2_with fail
 rw [← HX.out]
 refine HCK.out.mono ?_
 rintro _ w2 ⟨rfl, hb2⟩
 have HB2 : Hid (Below w.heap.size w w2) := HB.out.trans (hb2.mono HB.out.size)
 clear hb2 lx HCK
 go_wp2
 go_ret2
 exact ⟨_, _, rfl, HB2.out⟩
theorem pencode17_c (w : World) (p : Pf) (A : Option Addr) (c : Nat) (hp : p.Ok) (hA : DS w A p.sib) (hc : p.sib.length ≤ c) (hl : p.sib.length ≤ 1000000) (hz0 : chkP p = 0) :
  Calls Tryz.prog 27 #[.agg (pfC p (.slice A p.sib.length c))] w fun e w' => ∃ v, e = .returned (.tuple #[v, .int .i64 0]) ∧ OwnB w' w.heap.size v (encP p) ∧ Below w.heap.size w w' := by
 obtain ⟨hk, hd0, hd1, hsl⟩ := chkP_ok17 hz0
 obtain ⟨X, hX⟩ : ∃ X, X = w.alloc (.cells (pfC p (.slice A p.sib.length c)) 53) := ⟨_, rfl⟩
 have hB : Below w.heap.size w X := by rw [hX]; exact Bt.one_below _ _
 have hP : PfAt X w.heap.size p (.slice A p.sib.length c) := by rw [hX]; exact PfAt.one _ _ _
 have lx := hP.ld hp
 rw [hX] at lx
 have hck := pcheck_c X p A c hp (hA.below hB) hc hl
 rw [hz0] at hck
 have HCK := Lib.hid hck
 obtain ⟨D, hD⟩ : ∃ D : Nat, p.dep = (D : Int) := ⟨p.dep.toNat, by omega⟩
 have d0 : D ≤ 256 := by omega
 obtain ⟨K, hK⟩ : ∃ K : Nat, p.kind = (K : Int) ∧ K ≤ 1 := ⟨p.kind.toNat, by omega⟩
 have s1 := fun g o w => sl_all17 (t := 46) Tryz.underlying46 (by kernel_rfl) (by kernel_rfl) g o w
 have s2 := fun g o w => sl_all17 (t := 47) Tryz.underlying47 (by kernel_rfl) (by kernel_rfl) g o w
 have s3 := fun g o w => sl_all17 (t := 48) Tryz.underlying48 (by kernel_rfl) (by kernel_rfl) g o w
 have HX := Lib.hid hX
 have HB := Lib.hid hB
 have HP := Lib.hid hP
 have HBM := Lib.hid hp.bm
 have HLF := Lib.hid hp.lf
 have HPO := Lib.hid hp
 have HA := Lib.hid (hA.below hB)
 have HLE := Lib.hid hsl
 have HKK := Lib.hid hK.1
 have HK1 := Lib.hid hK.2
 have HDD := Lib.hid hD
 have HPL : Hid (w.heap.size < X.heap.size) := hP.lt
 clear hX hB hP hA hc hl hp hz0 hk hd0 hd1 hsl hck hD hK
 go_enter Tryz.func27, Tryz.ntmps27
 go_wp2_with fail
 rw [← HX.out]
 refine HCK.out.mono ?_
 rintro _ w1 ⟨rfl, hb1⟩
 have hp1 := HP.out.below hb1 HPL.out
 have c0 := hp1.kind
 have c1 := hp1.dep
 rw [HKK.out] at c0
 rw [HDD.out] at c1
 have HB1 : Hid (Below w.heap.size w w1) := HB.out.trans (hb1.mono HB.out.size)
 have HP1 := Lib.hid hp1
 have HX1 := Lib.hid hb1
 obtain ⟨Y, hY⟩ : ∃ Y, Y = w1.alloc (.cells #[.int .u8 1, .int .u8 ((K : Int) % 256), .int .u8 ((D : Int) / 256), .int .u8 ((D : Int) % 256)] 5) := ⟨_, rfl⟩
 have hO1 : OwnB Y w1.heap.size (.slice (some ⟨w1.heap.size, 0, none⟩) 4 4) (headP p) := by
  have h := own_four w1 1 (UInt8.ofNat K) (UInt8.ofNat (D / 256)) (UInt8.ofNat (D % 256))
  have k1 := HK1.out
  rw [← bv_ofNat (n := K) (by omega) ((K : Int) % 256) (by omega), ← bv_ofNat (n := D / 256) (by omega) ((D : Int) / 256) (by omega), ← bv_ofNat (n := D % 256) (by omega) ((D : Int) % 256) (by omega), show bv 1 = .int .u8 1 from rfl, ← hY] at h
  unfold headP
  rw [HKK.out, HDD.out]
  exact h
 have HO1 := Lib.hid hO1
 have HBX1 : Hid (Below w1.heap.size w1 Y) := by show Below _ _ _; rw [hY]; exact Bt.one_below _ _
 have HY := Lib.hid hY
 have HPB : Hid (∀ W, Below w1.heap.size w1 W → BA W (some ⟨w.heap.size, 66, none⟩) p.bm) := fun W h => ba_range ((HP1.out.below (h.mono HX1.out.size) HPL.out).bmR HPO.out)
 have HL1 : Hid ((p.lf.take 32).length = 32) := by show _ = _; rw [List.length_take, HLF.out]; rfl
 have HL2 : Hid ((p.lf.drop 32).length = 32) := by show _ = _; rw [List.length_drop, HLF.out]
 have HPK : Hid (∀ W, Below w1.heap.size w1 W → BA W (some ⟨w.heap.size, 2, none⟩) (p.lf.take 32)) := fun W h => ba_range (by
  have h1 := range_sub (HP1.out.below (h.mono HX1.out.size) HPL.out).lfR 0 32
  rwa [List.drop_zero, ← List.map_take] at h1)
 have HPD : Hid (∀ W, Below w1.heap.size w1 W → BA W (some ⟨w.heap.size, 34, none⟩) (p.lf.drop 32)) := fun W h => ba_range (by
  have h1 := range_sub (HP1.out.below (h.mono HX1.out.size) HPL.out).lfR 32 32
  rwa [← List.map_drop, List.take_of_length_le (by rw [List.length_map, List.length_drop, HLF.out]; omega)] at h1)
 have HHL : Hid ((headP p).length = 4) := rfl
 clear hO1 hY lx HCK hb1 hp1
 rcases (show K = 0 ∨ K = 1 by have := HK1.out; omega) with rfl | rfl
 ·have HY : Hid (Y = w1.alloc (.cells #[.int .u8 1, .int .u8 0, .int .u8 ((D : Int) / 256), .int .u8 ((D : Int) % 256)] 5)) := HY.out
  have HKK : Hid (p.kind = 0) := HKK.out
  have c0 : w1.cell? ⟨w.heap.size, 0, none⟩ = some (.int .i64 0) := c0
  go_wp2_with (at_builtin; rw [← HY.out]; refine wpList_catB1 rfl _ _ rfl w1.heap.size _ (headP p) rfl HO1.out (some ⟨w.heap.size, 66, none⟩) _ (p.bm) (by rw [HBM.out]; rfl) (HPB.out _ HBX1.out) (by have h1 := HHL.out; have h2 := HBM.out; have h3 := HL1.out; have h4 := HL2.out; (try simp only [List.length_append]); omega) HBX1.out.size ?_; intro v2 w2 hO2 hB2; have HO2 := Lib.hid hO2; have HBX2 : Hid (Below w1.heap.size w1 w2) := HBX1.out.trans hB2; clear hO2 hB2; have c2 := (HP1.out.below (HBX2.out.mono HX1.out.size) HPL.out).kind; rw [HKK.out] at c2; have c98 := (HP1.out.below (HBX2.out.mono HX1.out.size) HPL.out).sib HPO.out)
  obtain ⟨L, hL⟩ : ∃ L, L = headP p ++ p.bm := ⟨_, rfl⟩
  have HLL : Hid (L ++ p.sib.flatten = encP p) := by show _ = _; rw [hL]; unfold encP leafP; rw [HKK.out]; simp
  have HLN : Hid (L.length ≤ 100) := by show _ ≤ _; rw [hL]; have h1 := HHL.out; have h2 := HBM.out; have h3 := HL1.out; have h4 := HL2.out; simp only [List.length_append]; omega
  have HOL : Hid (OwnB w2 w1.heap.size v2 (L ++ (p.sib.take 0).flatten)) := by show OwnB _ _ _ _; rw [List.take_zero, List.flatten_nil, List.append_nil, hL]; exact HO2.out
  clear hL
  go_loopg [5, 44] p.sib.length (fun gg out i wr => ∃ k : Nat, i = .int .i64 k ∧ k ≤ p.sib.length ∧ p.sib.length - k = gg ∧ OwnB wr w1.heap.size out (L ++ (p.sib.take k).flatten) ∧ Below w1.heap.size w1 wr)
  case atStart => exact ⟨0, rfl, by omega, by omega, HOL.out, HBX2.out⟩
  case round =>
   clear HOL
   obtain ⟨k, rfl, hk, rfl, hO, hB⟩ := hrel
   have HO := Lib.hid hO
   have HBR := Lib.hid hB
   obtain ⟨A3, c3, rfl⟩ := hO.len
   have HKN := Lib.hid hk
   clear hO hB hk
   by_cases hlt : k < p.sib.length
   ·have hd : decide ((k : Int) < (p.sib.length : Int)) = true := by rw [decide_eq_true_eq]; omega
    obtain ⟨x, hx⟩ : ∃ x, p.sib[k]? = some x := ⟨_, List.getElem?_eq_getElem hlt⟩
    obtain ⟨hx32, g, o, rfl, hr⟩ := HA.out k x hx
    have HX32 := Lib.hid hx32
    have la : ldA 47 wr (.pointer (some ⟨g, o + k * 32, none⟩)) = .ok (.value (.agg (bA x))) wr := by
     obtain ⟨_, g', o', e, hr'⟩ := ((HA.out.below HX1.out).below (HBR.out.mono (Nat.le_refl _))) k x hx
     cases e
     exact ldDig hr' hx32
    obtain ⟨Z, hZ⟩ : ∃ Z, Z = wr.alloc (.cells (bA x) 47) := ⟨_, rfl⟩
    have st1 : stA 47 (wr.alloc (.cells (bA z26) 47)) (.pointer (some ⟨wr.heap.size, 0, none⟩)) (.agg (bA x)) = .ok .skip (wr.alloc (.cells (bA x) 47)) := stA_new wr (bA z26) (bA x) (by rw [bA_size, hx32]; exact info26) (by rw [bA_size, bA_size, hx32]; rfl) (bA_one _)
    have HBZ : Hid (Below w1.heap.size w1 Z) := by show Below _ _ _; rw [hZ]; exact HBR.out.alloc HBR.out.size _
    have HOZ : Hid (OwnB Z w1.heap.size (.slice A3 (L ++ (p.sib.take k).flatten).length c3) (L ++ (p.sib.take k).flatten)) := by show OwnB _ _ _ _; rw [hZ]; exact HO.out.below (Bt.one_below _ _)
    have HBAx : Hid (BA Z (some ⟨wr.heap.size, 0, none⟩) x) := by
     show BA _ _ _
     rw [hZ]
     exact ba_range (dig_made _ _ _)
    have HZZ := Lib.hid hZ
    have HTK : Hid ((L ++ (p.sib.take k).flatten) ++ x = L ++ (p.sib.take (k + 1)).flatten) := by
     show _ = _
     rw [List.append_assoc, List.take_add_one, hx]
     simp
    have HFL : Hid ((p.sib.take k).flatten.length ≤ 32000) := by
     show _ ≤ _
     rw [flat_len _ fun s hs => HPO.out.sib s (List.mem_of_mem_take hs), List.length_take]
     have := HLE.out
     omega
    have j0 : (0 : Int) ≤ (k : Int) := by omega
    have j1 : (k : Int) < (p.sib.length : Int) := by omega
    have n0 : k ≤ 1000 := by have := HLE.out; omega
    clear hx hx32 hr hlt hZ
    go_wp2_with (at_builtin; rw [← HZZ.out]; refine wpList_catB1 rfl _ _ rfl w1.heap.size _ (L ++ (p.sib.take k).flatten) rfl HOZ.out (some ⟨wr.heap.size, 0, none⟩) _ x (by rw [HX32.out]; rfl) HBAx.out (by rw [HX32.out, List.length_append]; have := HLN.out; have := HFL.out; omega) HBZ.out.size ?_; intro v9 w9 hO9 hB9; have HO9 := Lib.hid hO9; have HB9 : Hid (Below w1.heap.size w1 w9) := HBZ.out.trans hB9; clear hO9 hB9)
    go_roundg (p.sib.length - (k + 1))
    case measure => omega
    case rel => exact ⟨k + 1, by go_num, by omega, rfl, by rw [← HTK.out]; exact HO9.out, HB9.out⟩
   ·obtain rfl : k = p.sib.length := by have := HKN.out; omega
    have hd : decide ((p.sib.length : Int) < (p.sib.length : Int)) = false := by simp
    have HOf : Hid (OwnB wr w.heap.size (.slice A3 (L ++ (p.sib.take p.sib.length).flatten).length c3) (encP p)) := by
     have h1 := HO.out
     rw [List.take_length] at h1 ⊢
     rw [HLL.out] at h1 ⊢
     exact h1.mono HB1.out.size
    have HBf : Hid (Below w.heap.size w wr) := HB1.out.trans (HBR.out.mono HB1.out.size)
    clear HO hlt
    go_wp2_with fail
    go_ret2
    exact ⟨_, rfl, HOf.out, HBf.out⟩
 ·have HY : Hid (Y = w1.alloc (.cells #[.int .u8 1, .int .u8 1, .int .u8 ((D : Int) / 256), .int .u8 ((D : Int) % 256)] 5)) := HY.out
  have HKK : Hid (p.kind = 1) := HKK.out
  have c0 : w1.cell? ⟨w.heap.size, 0, none⟩ = some (.int .i64 1) := c0
  go_wp2_with (first | (at_builtin; refine wpList_catB1 rfl _ _ rfl w1.heap.size _ ((headP p ++ p.bm) ++ p.lf.take 32) rfl HO3.out (some ⟨w.heap.size, 34, none⟩) _ (p.lf.drop 32) (by rw [HL2.out]; rfl) (HPD.out _ HBX3.out) (by have h1 := HHL.out; have h2 := HBM.out; have h3 := HL1.out; have h4 := HL2.out; (try simp only [List.length_append]); omega) HBX3.out.size ?_; intro v4 w4 hO4 hB4; have HO4 := Lib.hid hO4; have HBX4 : Hid (Below w1.heap.size w1 w4) := HBX3.out.trans hB4; clear hO4 hB4; have c4 := (HP1.out.below (HBX4.out.mono HX1.out.size) HPL.out).kind; rw [HKK.out] at c4; have c98 := (HP1.out.below (HBX4.out.mono HX1.out.size) HPL.out).sib HPO.out) | (at_builtin; refine wpList_catB1 rfl _ _ rfl w1.heap.size _ (headP p ++ p.bm) rfl HO2.out (some ⟨w.heap.size, 2, none⟩) _ (p.lf.take 32) (by rw [HL1.out]; rfl) (HPK.out _ HBX2.out) (by have h1 := HHL.out; have h2 := HBM.out; have h3 := HL1.out; have h4 := HL2.out; (try simp only [List.length_append]); omega) HBX2.out.size ?_; intro v3 w3 hO3 hB3; have HO3 := Lib.hid hO3; have HBX3 : Hid (Below w1.heap.size w1 w3) := HBX2.out.trans hB3; clear hO3 hB3; have c3 := (HP1.out.below (HBX3.out.mono HX1.out.size) HPL.out).kind; rw [HKK.out] at c3; have c98 := (HP1.out.below (HBX3.out.mono HX1.out.size) HPL.out).sib HPO.out) | (at_builtin; rw [← HY.out]; refine wpList_catB1 rfl _ _ rfl w1.heap.size _ (headP p) rfl HO1.out (some ⟨w.heap.size, 66, none⟩) _ (p.bm) (by rw [HBM.out]; rfl) (HPB.out _ HBX1.out) (by have h1 := HHL.out; have h2 := HBM.out; have h3 := HL1.out; have h4 := HL2.out; (try simp only [List.length_append]); omega) HBX1.out.size ?_; intro v2 w2 hO2 hB2; have HO2 := Lib.hid hO2; have HBX2 : Hid (Below w1.heap.size w1 w2) := HBX1.out.trans hB2; clear hO2 hB2; have c2 := (HP1.out.below (HBX2.out.mono HX1.out.size) HPL.out).kind; rw [HKK.out] at c2; have c98 := (HP1.out.below (HBX2.out.mono HX1.out.size) HPL.out).sib HPO.out))
  obtain ⟨L, hL⟩ : ∃ L, L = ((headP p ++ p.bm) ++ p.lf.take 32) ++ p.lf.drop 32 := ⟨_, rfl⟩
  have HLL : Hid (L ++ p.sib.flatten = encP p) := by show _ = _; rw [hL]; unfold encP leafP; rw [HKK.out]; rw [if_pos rfl, List.append_assoc (headP p ++ p.bm), List.take_append_drop]; simp
  have HLN : Hid (L.length ≤ 100) := by show _ ≤ _; rw [hL]; have h1 := HHL.out; have h2 := HBM.out; have h3 := HL1.out; have h4 := HL2.out; simp only [List.length_append]; omega
  have HOL : Hid (OwnB w4 w1.heap.size v4 (L ++ (p.sib.take 0).flatten)) := by show OwnB _ _ _ _; rw [List.take_zero, List.flatten_nil, List.append_nil, hL]; exact HO4.out
  clear hL
  go_loopg [5, 44] p.sib.length (fun gg out i wr => ∃ k : Nat, i = .int .i64 k ∧ k ≤ p.sib.length ∧ p.sib.length - k = gg ∧ OwnB wr w1.heap.size out (L ++ (p.sib.take k).flatten) ∧ Below w1.heap.size w1 wr)
  case atStart => exact ⟨0, rfl, by omega, by omega, HOL.out, HBX4.out⟩
  case round =>
   clear HOL
   obtain ⟨k, rfl, hk, rfl, hO, hB⟩ := hrel
   have HO := Lib.hid hO
   have HBR := Lib.hid hB
   obtain ⟨A3, c3, rfl⟩ := hO.len
   have HKN := Lib.hid hk
   clear hO hB hk
   by_cases hlt : k < p.sib.length
   ·have hd : decide ((k : Int) < (p.sib.length : Int)) = true := by rw [decide_eq_true_eq]; omega
    obtain ⟨x, hx⟩ : ∃ x, p.sib[k]? = some x := ⟨_, List.getElem?_eq_getElem hlt⟩
    obtain ⟨hx32, g, o, rfl, hr⟩ := HA.out k x hx
    have HX32 := Lib.hid hx32
    have la : ldA 47 wr (.pointer (some ⟨g, o + k * 32, none⟩)) = .ok (.value (.agg (bA x))) wr := by
     obtain ⟨_, g', o', e, hr'⟩ := ((HA.out.below HX1.out).below (HBR.out.mono (Nat.le_refl _))) k x hx
     cases e
     exact ldDig hr' hx32
    obtain ⟨Z, hZ⟩ : ∃ Z, Z = wr.alloc (.cells (bA x) 47) := ⟨_, rfl⟩
    have st1 : stA 47 (wr.alloc (.cells (bA z26) 47)) (.pointer (some ⟨wr.heap.size, 0, none⟩)) (.agg (bA x)) = .ok .skip (wr.alloc (.cells (bA x) 47)) := stA_new wr (bA z26) (bA x) (by rw [bA_size, hx32]; exact info26) (by rw [bA_size, bA_size, hx32]; rfl) (bA_one _)
    have HBZ : Hid (Below w1.heap.size w1 Z) := by show Below _ _ _; rw [hZ]; exact HBR.out.alloc HBR.out.size _
    have HOZ : Hid (OwnB Z w1.heap.size (.slice A3 (L ++ (p.sib.take k).flatten).length c3) (L ++ (p.sib.take k).flatten)) := by show OwnB _ _ _ _; rw [hZ]; exact HO.out.below (Bt.one_below _ _)
    have HBAx : Hid (BA Z (some ⟨wr.heap.size, 0, none⟩) x) := by
     show BA _ _ _
     rw [hZ]
     exact ba_range (dig_made _ _ _)
    have HZZ := Lib.hid hZ
    have HTK : Hid ((L ++ (p.sib.take k).flatten) ++ x = L ++ (p.sib.take (k + 1)).flatten) := by
     show _ = _
     rw [List.append_assoc, List.take_add_one, hx]
     simp
    have HFL : Hid ((p.sib.take k).flatten.length ≤ 32000) := by
     show _ ≤ _
     rw [flat_len _ fun s hs => HPO.out.sib s (List.mem_of_mem_take hs), List.length_take]
     have := HLE.out
     omega
    have j0 : (0 : Int) ≤ (k : Int) := by omega
    have j1 : (k : Int) < (p.sib.length : Int) := by omega
    have n0 : k ≤ 1000 := by have := HLE.out; omega
    clear hx hx32 hr hlt hZ
    go_wp2_with (at_builtin; rw [← HZZ.out]; refine wpList_catB1 rfl _ _ rfl w1.heap.size _ (L ++ (p.sib.take k).flatten) rfl HOZ.out (some ⟨wr.heap.size, 0, none⟩) _ x (by rw [HX32.out]; rfl) HBAx.out (by rw [HX32.out, List.length_append]; have := HLN.out; have := HFL.out; omega) HBZ.out.size ?_; intro v9 w9 hO9 hB9; have HO9 := Lib.hid hO9; have HB9 : Hid (Below w1.heap.size w1 w9) := HBZ.out.trans hB9; clear hO9 hB9)
    go_roundg (p.sib.length - (k + 1))
    case measure => omega
    case rel => exact ⟨k + 1, by go_num, by omega, rfl, by rw [← HTK.out]; exact HO9.out, HB9.out⟩
   ·obtain rfl : k = p.sib.length := by have := HKN.out; omega
    have hd : decide ((p.sib.length : Int) < (p.sib.length : Int)) = false := by simp
    have HOf : Hid (OwnB wr w.heap.size (.slice A3 (L ++ (p.sib.take p.sib.length).flatten).length c3) (encP p)) := by
     have h1 := HO.out
     rw [List.take_length] at h1 ⊢
     rw [HLL.out] at h1 ⊢
     exact h1.mono HB1.out.size
    have HBf : Hid (Below w.heap.size w wr) := HB1.out.trans (HBR.out.mono HB1.out.size)
    clear HO hlt
    go_wp2_with fail
    go_ret2
    exact ⟨_, rfl, HOf.out, HBf.out⟩
end
end Go.Proofs.YtjgdindjimbfeaaGreatDoor
