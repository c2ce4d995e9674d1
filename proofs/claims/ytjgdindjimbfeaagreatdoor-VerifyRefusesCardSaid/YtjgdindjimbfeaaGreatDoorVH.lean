import Derived.Test.YtjgdindjimbfeaaGreatDoorVA
import Derived.Test.YtjgdindjimbfeaaGreatDoorBD
import Derived.Test.YtjgdindjimbfeaaGreatDoorSl
namespace Go.Proofs.YtjgdindjimbfeaaGreatDoor
set_option linter.unusedSimpArgs false
set_option linter.unusedVariables false
set_option maxHeartbeats 4000000
set_option maxRecDepth 100000
section
open Go.RowKit
theorem cellP8 {A : Option Addr} {b : List UInt8} {W : World} (hA : BA W A b) (h : 0 < b.length) : ∃ g o, A = some ⟨g, o, none⟩ ∧ ∀ i, i < b.length → W.cell? ⟨g, o + i, none⟩ = some (.int .u8 (at8 b i : Int)) := by
 obtain ⟨g, o, e, _⟩ := hA 0 _ (List.getElem?_eq_getElem h)
 subst e
 refine ⟨g, o, rfl, fun i hi => ?_⟩
 obtain ⟨g', o', e, h⟩ := hA i _ (List.getElem?_eq_getElem hi)
 cases e
 rw [h]
 unfold at8
 rw [List.getD_eq_getElem?_getD, List.getElem?_eq_getElem hi]; rfl
theorem pkind17_c (w : World) (b : List UInt8) (A : Option Addr) (c : Nat) (hA : BA w A b) :
  Calls Tryz.prog 104 #[.slice A b.length c] w fun e w' => e = .returned (.tuple #[.int .i64 (kdV b), .int .i64 (kdE b)]) ∧ Below w.heap.size w w' := by
 by_cases h2 : b.length < 2
 ·have d1 : decide ((b.length : Int) < 2) = true := decide_eq_true (by omega)
  rw [show kdV b = 0 by unfold kdV; rw [if_pos h2], show kdE b = 5 by unfold kdE; rw [if_pos h2]]
  clear h2 hA
  go_enter Tryz.func104, Tryz.ntmps104
  go_wp2
  go_ret2
  exact ⟨rfl, Below.refl _ _⟩
 ·have d1 : decide ((b.length : Int) < 2) = false := decide_eq_false (by omega)
  obtain ⟨g, o, rfl, hcell⟩ := cellP8 hA (by omega)
  have c0 := hcell 0 (by omega)
  have c1 := hcell 1 (by omega)
  rw [Nat.add_zero] at c0
  have j1 : (1 : Int) < (b.length : Int) := by omega
  have hl1 := at8_lt b 1
  clear hcell
  by_cases h0 : at8 b 0 = 1
  ·rw [show kdV b = at8 b 1 by unfold kdV; rw [if_neg h2, if_neg (by omega)], show kdE b = 0 by unfold kdE; rw [if_neg h2, if_neg (by omega)]]
   have c0z : w.cell? ⟨g, o, none⟩ = some (.int .u8 1) := by rw [c0, h0]; rfl
   obtain ⟨x1, hx1⟩ : ∃ x, x = at8 b 1 := ⟨_, rfl⟩
   rw [← hx1] at c1 hl1 ⊢
   clear h2 hA h0 hx1 c0
   go_enter Tryz.func104, Tryz.ntmps104
   go_wp2
   go_ret2
   exact ⟨rfl, Below.refl _ _⟩
  ·rw [show kdV b = 0 by unfold kdV; rw [if_neg h2, if_pos h0], show kdE b = 6 by unfold kdE; rw [if_neg h2, if_pos h0]]
   have d2 : ¬ ((at8 b 0 : Int) = 1) := by omega
   clear h2 hA h0
   go_enter Tryz.func104, Tryz.ntmps104
   go_wp2
   go_ret2
   exact ⟨rfl, Below.refl _ _⟩
def headN (k : Int) : Int := if k = 1 then 100 else if k = 0 then 36 else 0
theorem phead17_c (w : World) (k : Int) : Calls Tryz.prog 105 #[.int .i64 k] w fun e w' => e = .returned (.int .i64 (headN k)) ∧ Below w.heap.size w w' := by
 by_cases h1 : k = 1
 ·rw [show headN k = 100 by unfold headN; rw [if_pos h1]]
  subst h1
  go_enter Tryz.func105, Tryz.ntmps105
  go_wp2
  go_ret
  exact ⟨rfl, Below.refl _ _⟩
 ·by_cases h0 : k = 0
  ·rw [show headN k = 36 by unfold headN; rw [if_neg h1, if_pos h0]]
   subst h0
   clear h1
   go_enter Tryz.func105, Tryz.ntmps105
   go_wp2
   go_ret
   exact ⟨rfl, Below.refl _ _⟩
  ·rw [show headN k = 0 by unfold headN; rw [if_neg h1, if_neg h0]]
   go_enter Tryz.func105, Tryz.ntmps105
   go_wp2
   go_ret
   exact ⟨rfl, Below.refl _ _⟩
end
section
open Go.RowKit
def chkB17 (b : List UInt8) : Int :=
 if b.length < 36 then 5 else if at8 b 0 ≠ 1 then 6 else if 1 < at8 b 1 then 7 else if b.length < restP b ∨ 8192 < b.length - restP b ∨ (b.length - restP b) % 32 ≠ 0 then 5 else 0
theorem headN_restP {b : List UInt8} (h : ¬ 1 < at8 b 1) : headN (at8 b 1) = restP b := by
 unfold headN restP
 rcases (show at8 b 1 = 0 ∨ at8 b 1 = 1 by omega) with e | e <;> rw [e] <;> rfl
theorem pparts17_c (w : World) (b : List UInt8) (A : Option Addr) (c : Nat) (hA : BA w A b) (hl : b.length ≤ 1000000) :
  Calls Tryz.prog 62 #[.slice A b.length c] w fun e w' => e = .returned (.int .i64 (chkB17 b)) ∧ Below w.heap.size w w' := by
 by_cases h36 : b.length < 36
 ·have d1 : decide ((b.length : Int) < 36) = true := decide_eq_true (by omega)
  rw [show chkB17 b = 5 by unfold chkB17; rw [if_pos h36]]
  clear h36 hA
  go_enter Tryz.func62, Tryz.ntmps62
  go_wp2
  go_ret
  exact ⟨rfl, Below.refl _ _⟩
 have d1 : decide ((b.length : Int) < 36) = false := decide_eq_false (by omega)
 have HK := Lib.hid (pkind17_c w b A c hA)
 by_cases h0 : at8 b 0 = 1
 rotate_left 1
 ·have ek : kdE b = 6 := by unfold kdE; rw [if_neg (by omega), if_pos h0]
  have ev : kdV b = 0 := by unfold kdV; rw [if_neg (by omega), if_pos h0]
  rw [ek, ev] at HK
  rw [show chkB17 b = 6 by unfold chkB17; rw [if_neg h36, if_pos h0]]
  clear h36 hA h0 ek ev hl
  go_enter Tryz.func62, Tryz.ntmps62
  go_wp2_with fail
  refine HK.out.mono ?_
  rintro _ w2 ⟨rfl, hb2⟩
  have HB2 := Lib.hid hb2
  clear HK hb2
  go_wp2
  go_ret
  exact ⟨rfl, HB2.out⟩
 have ek : kdE b = 0 := by unfold kdE; rw [if_neg (by omega), if_neg (by omega)]
 have ev : kdV b = at8 b 1 := by unfold kdV; rw [if_neg (by omega), if_neg (by omega)]
 rw [ek, ev] at HK
 have HHD := Lib.hid (fun w => phead17_c w (at8 b 1))
 have hge : 36 ≤ b.length := by omega
 obtain ⟨L, hL⟩ : ∃ L, L = b.length := ⟨_, rfl⟩
 by_cases h1 : 1 < at8 b 1
 ·have eh : headN (at8 b 1) = 0 := by unfold headN; rw [if_neg (by omega), if_neg (by omega)]
  rw [eh] at HHD
  rw [show chkB17 b = 7 by unfold chkB17; rw [if_neg h36, if_neg (by omega), if_pos h1]]
  clear h36 hA h0 ek ev hl h1 eh hge hL
  go_enter Tryz.func62, Tryz.ntmps62
  go_wp2_with fail
  refine HK.out.mono ?_
  rintro _ w2 ⟨rfl, hb2⟩
  have HB2 := Lib.hid hb2
  clear HK hb2
  go_wp2_with fail
  refine (HHD.out _).mono ?_
  rintro _ w3 ⟨rfl, hb3⟩
  have HB3 := Lib.hid (HB2.out.trans (hb3.mono HB2.out.size))
  clear HHD hb3
  go_wp2
  go_ret
  exact ⟨rfl, HB3.out⟩
 obtain ⟨R, hR⟩ : ∃ R, R = restP b := ⟨_, rfl⟩
 have hR2 : R = 36 ∨ R = 100 := by rw [hR]; unfold restP; split <;> simp
 rw [headN_restP h1, ← hR] at HHD
 have hn0 : ¬ ((R : Int) = 0) := by omega
 have hw : IntKind.i64.wrap ((b.length : Int) - (R : Int)) = (b.length : Int) - (R : Int) := wrap17 (by omega) (by omega)
 have he : chkB17 b = if b.length < R ∨ 8192 < b.length - R ∨ (b.length - R) % 32 ≠ 0 then 5 else 0 := by
  unfold chkB17
  rw [if_neg h36, if_neg (by omega), if_neg h1, ← hR]
 rw [he]
 clear h36 hA h0 ek ev h1 he hR
 by_cases hlt : b.length < R
 ·rw [if_pos (.inl hlt)]
  have d2 : decide ((b.length : Int) - (R : Int) < 0) = true := decide_eq_true (by omega)
  clear hL hlt hR2 hl hge
  go_enter Tryz.func62, Tryz.ntmps62
  go_wp2_with fail
  refine HK.out.mono ?_
  rintro _ w2 ⟨rfl, hb2⟩
  have HB2 := Lib.hid hb2
  clear HK hb2
  go_wp2_with fail
  refine (HHD.out _).mono ?_
  rintro _ w3 ⟨rfl, hb3⟩
  have HB3 := Lib.hid (HB2.out.trans (hb3.mono HB2.out.size))
  clear HHD hb3
  go_wp2
  go_ret
  exact ⟨rfl, HB3.out⟩
 obtain ⟨n, hn⟩ : ∃ n : Nat, n = b.length - R := ⟨_, rfl⟩
 have hw2 : IntKind.i64.wrap ((b.length : Int) - (R : Int)) = (n : Int) := by rw [hw]; omega
 rw [← hn]
 have d2 : decide ((n : Int) < 0) = false := decide_eq_false (by omega)
 have hnl : n ≤ 1000000 := by omega
 have HLT : Hid (¬ b.length < R) := hlt
 clear hL hR2 hl hge hn hlt hw
 by_cases hbig : 8192 < n
 ·rw [if_pos (.inr (.inl hbig))]
  have d3 : decide ((8192 : Int) < (n : Int)) = true := decide_eq_true (by omega)
  clear hbig hnl
  go_enter Tryz.func62, Tryz.ntmps62
  go_wp2_with fail
  refine HK.out.mono ?_
  rintro _ w2 ⟨rfl, hb2⟩
  have HB2 := Lib.hid hb2
  clear HK hb2
  go_wp2_with fail
  refine (HHD.out _).mono ?_
  rintro _ w3 ⟨rfl, hb3⟩
  have HB3 := Lib.hid (HB2.out.trans (hb3.mono HB2.out.size))
  clear HHD hb3
  go_wp2
  go_ret
  exact ⟨rfl, HB3.out⟩
 have d3 : decide ((8192 : Int) < (n : Int)) = false := decide_eq_false (by omega)
 have HBIG : Hid (¬ 8192 < n) := hbig
 clear hbig hnl
 by_cases hm : n % 32 = 0
 ·rw [if_neg (by have h1 := HLT.out; have h2 := HBIG.out; omega)]
  have hrm : ((n : Int) % 32 != 0) = false := by rw [show ((n : Int) % 32) = 0 by omega]; rfl
  clear hm
  go_enter Tryz.func62, Tryz.ntmps62
  go_wp2_with fail
  refine HK.out.mono ?_
  rintro _ w2 ⟨rfl, hb2⟩
  have HB2 := Lib.hid hb2
  clear HK hb2
  go_wp2_with fail
  refine (HHD.out _).mono ?_
  rintro _ w3 ⟨rfl, hb3⟩
  have HB3 := Lib.hid (HB2.out.trans (hb3.mono HB2.out.size))
  clear HHD hb3
  go_wp2
  go_ret
  exact ⟨rfl, HB3.out⟩
 ·rw [if_pos (.inr (.inr hm))]
  have hrm : ((n : Int) % 32 != 0) = true := by simp; omega
  clear hm
  go_enter Tryz.func62, Tryz.ntmps62
  go_wp2_with fail
  refine HK.out.mono ?_
  rintro _ w2 ⟨rfl, hb2⟩
  have HB2 := Lib.hid hb2
  clear HK hb2
  go_wp2_with fail
  refine (HHD.out _).mono ?_
  rintro _ w3 ⟨rfl, hb3⟩
  have HB3 := Lib.hid (HB2.out.trans (hb3.mono HB2.out.size))
  clear HHD hb3
  go_wp2
  go_ret
  exact ⟨rfl, HB3.out⟩
def RdAt (w : World) (g q o c n i : Nat) : Prop := ∃ A, w.heap[g]? = some (.cells #[.slice A (n - i) (c - i)] 179 (0, 0)) ∧ (i < c → A = some ⟨q, o + i, none⟩)
theorem next17_c (w : World) (g q o c n i k : Nat) (hg : RdAt w g q o c n i) (hk : 0 < k) (hi : i + k ≤ n) (hc : n ≤ c) (_hn : n ≤ 1000000) :
  Calls Tryz.prog 106 #[.pointer (some ⟨g, 0, none⟩), .int .i64 k] w fun e w' => e = .returned (.slice (some ⟨q, o + i, none⟩) k (c - i)) ∧ RdAt w' g q o c n (i + k) ∧ Keep (fun j => j = g) w w' := by
 obtain ⟨A, hb, hA⟩ := hg
 obtain rfl := hA (by omega)
 have c1 : w.cell? ⟨g, 0, none⟩ = some (.slice (some ⟨q, o + i, none⟩) (n - i) (c - i)) := by rw [cell_of_cells hb]; rfl
 have f1 : w.frozen? ⟨g, 0, none⟩ = false := frozen_of_row w _ _ _ _ hb
 obtain ⟨m, hm⟩ : ∃ m, m = n - i := ⟨_, rfl⟩
 obtain ⟨d, hd⟩ : ∃ d, d = c - i := ⟨_, rfl⟩
 rw [← hm, ← hd] at c1
 have j1 : (k : Int) ≤ (d : Int) := by omega
 have j2 : (k : Int) ≤ (m : Int) := by omega
 have HB := Lib.hid hb
 have HM := Lib.hid hm
 have HD := Lib.hid hd
 have HI := Lib.hid hi
 have HC := Lib.hid hc
 clear hA hb hk hi hc hm hd
 go_enter Tryz.func106, Tryz.ntmps106
 go_wp2_with fail
 ·go_ret
  have e1 := HM.out
  have e2 := HD.out
  have e3 := HI.out
  have e4 := HC.out
  refine ⟨by rw [← e2, h]; rfl, ⟨some ⟨q, o + i, none⟩, ?_, fun h => by omega⟩, Keep.cell w ⟨g, 0, none⟩ _⟩
  rw [heap_setCell_same w g 0 _ _ _ HB.out, show n - (i + k) = m - k by omega, show c - (i + k) = 0 by omega]
  rfl
 ·go_ret
  have e1 := HM.out
  have e2 := HD.out
  have e3 := HI.out
  have e4 := HC.out
  refine ⟨by rw [← e2]; rfl, ⟨some ⟨q, o + i + k, none⟩, ?_, fun _ => by rw [Nat.add_assoc]⟩, Keep.cell w ⟨g, 0, none⟩ _⟩
  rw [heap_setCell_same w g 0 _ _ _ HB.out, show n - (i + k) = m - k by omega, show c - (i + k) = d - k by omega]
  rfl
end
end Go.Proofs.YtjgdindjimbfeaaGreatDoor
