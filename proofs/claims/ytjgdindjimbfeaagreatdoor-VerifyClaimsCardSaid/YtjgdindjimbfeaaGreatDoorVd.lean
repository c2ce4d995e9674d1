import Derived.Test.YtjgdindjimbfeaaGreatDoorVA
import Derived.Test.YtjgdindjimbfeaaGreatDoorEe
import Derived.Test.YtjgdindjimbfeaaGreatDoorAD
import Derived.Test.YtjgdindjimbfeaaGreatDoorSl
import Derived.Test.YtjgdindjimbfeaaGreatDoorMR
namespace Go.Proofs.YtjgdindjimbfeaaGreatDoor
set_option linter.unusedSimpArgs false
set_option linter.unusedVariables false
set_option maxHeartbeats 16000000
set_option maxRecDepth 100000
open Go.RowKit
theorem bldPf_kb_f (k d : Int) (f : Nat → UInt8) (w : World) : bldA 53 w #[(0, .int .i64 k), (1, .int .i64 d), (3, .agg (bA ((List.range 32).map f)))] = .ok (.value (.agg (pfC ⟨k, d, z64, (List.range 32).map f, []⟩ (.slice none 0 0)))) w := by kernel_rfl
theorem bldPf_kb (k d : Int) (l : List UInt8) (hl : l.length = 32) (w : World) : bldA 53 w #[(0, .int .i64 k), (1, .int .i64 d), (3, .agg (bA l))] = .ok (.value (.agg (pfC ⟨k, d, z64, l, []⟩ (.slice none 0 0)))) w := by
 have := bldPf_kb_f k d (fun j => l.getD j 0) w
 rwa [← list32 l hl] at this
theorem rp_end17 {g : Nat} {V wr w9 : World} {p : Pf} {s s' : Value} {l : List (List UInt8)} (hgV : g < V.heap.size) (hp : p.Ok) (hK : Keep (fun i => i = g) V wr) (hS : Below V.heap.size wr w9) (hO : OwnD w9 V.heap.size s' l) (hP : PfAt w9 g p s) :
  Hid (PfAt (w9.setCell ⟨g, 98, none⟩ s') g p s') ∧ Hid (OwnD (w9.setCell ⟨g, 98, none⟩ s') V.heap.size s' l) ∧ Hid (Keep (fun i => i = g) V (w9.setCell ⟨g, 98, none⟩ s')) := by
 have k : Keep (fun i => i = g) w9 (w9.setCell ⟨g, 98, none⟩ s') := Keep.cell w9 ⟨g, 98, none⟩ s'
 refine ⟨hP.setSib hp s', ?_, ?_⟩
 ·exact row11_other hO fun i cs h1 hh => by
   have := hO.ge i h1
   rw [heap_setCell_other _ _ _ _ (show i ≠ g by omega)]
   exact hh
 ·exact ⟨k.os.trans (hS.os.trans hK.os), k.tape.trans (hS.tape.trans hK.tape), k.output.trans (hS.output.trans hK.output), Nat.le_trans hK.size (Nat.le_trans hS.size k.size), fun i hi hl =>
   (k.block i (Nat.lt_of_lt_of_le hi (Nat.le_trans hK.size hS.size)) hl).trans ((hS.block i hi).trans (hK.block i hi hl))⟩
theorem chkP_many {p : Pf} (h : 256 < p.sib.length) : chkP p ≠ 0 := by
 intro h0
 rcases chkP_cases p with ⟨h1, _⟩ | ⟨_, ⟨h1, _⟩ | ⟨_, _, _, _, h2, _⟩⟩
 ·omega
 ·omega
 ·have := setZ_le17 (keyF p.bm) 256
  omega
theorem dec_fin {b : List UInt8} {k : Nat} (h36 : 36 ≤ b.length) (h0 : at8 b 0 = 1) (h1 : at8 b 1 ≤ 1) (hr : restP b + 32 * k ≤ b.length) (hx : ¬ (restP b + 32 * k + 32 ≤ b.length) ∨ 256 < k) :
  (restP b + 32 * k ≠ b.length → decE b = 5) ∧ (restP b + 32 * k = b.length → (b.length - restP b) / 32 = k ∧ (chkP (rawP b) ≠ 0 → decE b = 5) ∧ (chkP (rawP b) = 0 → decE b = 0)) := by
 have he : decE b = if (b.length - restP b) % 32 ≠ 0 ∨ chkP (rawP b) ≠ 0 then 5 else 0 := by
  unfold decE
  rw [if_neg (by omega), if_neg (by omega), if_neg (by omega), if_neg (by omega)]
 refine ⟨fun hne => ?_, fun heq => ⟨by omega, fun h => by rw [he, if_pos (.inr h)], fun h => by rw [he, if_neg]; rintro (h2 | h2) <;> omega⟩⟩
 rw [he, if_pos]
 rcases Classical.em ((b.length - restP b) % 32 = 0) with hm | hm
 ·refine .inr (chkP_many ?_)
  show 256 < (chunks (b.drop (restP b)) ((b.length - restP b) / 32)).length
  rw [chunks_len]
  omega
 ·exact .inl hm
theorem chunks_part (b : List UInt8) (R k : Nat) : chunks (b.drop R) (k + 1) = chunks (b.drop R) k ++ [partL b (R + 32 * k)] := by
 rw [chunks_succ, List.drop_drop, Nat.mul_comm k 32]; rfl
theorem rdecode_c (b : List UInt8) (A : Option Addr) (c : Nat) (W : World) (hA : BA W A b) (hl : b.length ≤ 1000000) :
  Calls Tryz.prog 32 #[.slice A b.length c] W fun e w' => ∃ A' c', e = .returned (.tuple #[.agg (pfC (decQ b) (.slice A' (decQ b).sib.length c')), .int .i64 (decE b)]) ∧ DS w' A' (decQ b).sib ∧ (decQ b).sib.length ≤ c' ∧ Below W.heap.size W w' := by
 obtain ⟨X, hX⟩ : ∃ X, X = (W.alloc (.cells (pfC zPf (.slice none 0 0)) 53)).alloc (.cells (pfC zPf (.slice none 0 0)) 53) := ⟨_, rfl⟩
 have hB : Below W.heap.size W X := by rw [hX]; exact Bt.two_below _ _ _
 have HRX : Hid (PfAt X W.heap.size zPf (.slice none 0 0)) := by show PfAt _ _ _ _; rw [hX]; exact heap_alloc2_old W _ _
 have HNX : Hid (PfAt X (W.heap.size + 1) zPf (.slice none 0 0)) := by show PfAt _ _ _ _; rw [hX]; exact heap_alloc2_new W _ _
 have HBX0 : Hid (Below X.heap.size X X) := Below.refl _ _
 have HX := Lib.hid hX
 have HB := Lib.hid hB
 have HA := Lib.hid hA
 have HLE := Lib.hid hl
 clear hX hB hA hl
 by_cases h36 : b.length < 36
 ·have d1 : decide ((b.length : Int) < 36) = true := decide_eq_true (by omega)
  have he : decE b = 5 := by unfold decE; rw [if_pos h36]
  obtain rfl := HX.out
  have ln := (HNX.out.below HBX0.out HNX.out.lt).ld zPf_ok
  have hrv := HRX.out.below HBX0.out HRX.out.lt
  have stz : stA 53 ((W.alloc (.cells (pfC zPf (.slice none 0 0)) 53)).alloc (.cells (pfC zPf (.slice none 0 0)) 53)) (.pointer (some ⟨W.heap.size, 0, none⟩)) (.agg (pfC zPf (.slice none 0 0))) = .ok .skip (((W.alloc (.cells (pfC zPf (.slice none 0 0)) 53)).alloc (.cells (pfC zPf (.slice none 0 0)) 53)).setRow W.heap.size (pfC zPf (.slice none 0 0))) := stA_row hrv (by rw [pfC_size zPf_ok]; exact infoPf) rfl (pfC_one _ _ _ _)
  have HROW : Hid (PfAt (((W.alloc (.cells (pfC zPf (.slice none 0 0)) 53)).alloc (.cells (pfC zPf (.slice none 0 0)) 53)).setRow W.heap.size (pfC zPf (.slice none 0 0))) W.heap.size zPf (.slice none 0 0)) := setRow_heap _ _ _ _ _ _ hrv
  have HBF : Hid (Below W.heap.size W (((W.alloc (.cells (pfC zPf (.slice none 0 0)) 53)).alloc (.cells (pfC zPf (.slice none 0 0)) 53)).setRow W.heap.size (pfC zPf (.slice none 0 0)))) := Bt.below_row (HB.out.trans (HBX0.out.mono HB.out.size)) (Nat.le_refl _) _
  have HDE := Lib.hid (he)
  clear hrv he
  go_enter Tryz.func32, Tryz.ntmps32
  go_wp2_with fail
  refine bodyPost_ret ?_ rfl ⟨none, 0, by rw [HDE.out, decQ_bad (by rw [HDE.out]; decide)], by rw [decQ_bad (by rw [HDE.out]; decide)]; exact DS.nil _ _, by rw [decQ_bad (by rw [HDE.out]; decide)]; exact Nat.le_refl _, HBF.out⟩
  exact results_row_tmp Tryz.results32 _ _ W.heap.size _ _ rfl rfl (run_loadVar_row (P := Tryz.prog) _ _ 53 53 (pfC zPf (.slice none 0 0)) (0, 0) _ HROW.out Tryz.underlying53 rfl (by rw [pfC_size zPf_ok]; exact infoPf))
 have d1 : decide ((b.length : Int) < 36) = false := decide_eq_false (by omega)
 have hb36 : 36 ≤ b.length := by omega
 obtain ⟨g, o, rfl, hcells⟩ : ∃ g o, A = some ⟨g, o, none⟩ ∧ ∀ i, i < b.length → W.cell? ⟨g, o + i, none⟩ = some (.int .u8 (at8 b i : Int)) := by
  obtain ⟨g, o, e, _⟩ := HA.out 0 _ (List.getElem?_eq_getElem (show 0 < b.length by omega))
  subst e
  refine ⟨g, o, rfl, fun i hi => ?_⟩
  obtain ⟨g', o', e, h⟩ := HA.out i _ (List.getElem?_eq_getElem hi)
  cases e
  rw [h]
  unfold at8
  rw [List.getD_eq_getElem?_getD, List.getElem?_eq_getElem hi]; rfl
 have HCE : Hid (∀ i, i < b.length → ∀ w, Below W.heap.size W w → w.cell? ⟨g, o + i, none⟩ = some (.int .u8 (at8 b i : Int))) := fun i hi w h => by
  rw [h.cell (p := ⟨g, o + i, none⟩) (lt_of_cell (hcells i hi))]; exact hcells i hi
 have HBL0 : Hid (at8 b 0 < 256 ∧ at8 b 1 < 256 ∧ at8 b 2 < 256 ∧ at8 b 3 < 256) := ⟨at8_lt b 0, at8_lt b 1, at8_lt b 2, at8_lt b 3⟩
 have c0 := HCE.out 0 (by omega) X HB.out
 have c1 := HCE.out 1 (by omega) X HB.out
 rw [Nat.add_zero] at c0
 have j36 : (36 : Int) ≤ (b.length : Int) := by omega
 clear hcells h36
 by_cases h0 : at8 b 0 = 1
 rotate_left 1
 ·have d2 : ((at8 b 0 : Int) == 1) = false := by simpa using (fun h : (at8 b 0 : Int) = 1 => h0 (by omega))
  have he : decE b = 6 := by unfold decE; rw [if_neg (by omega), if_pos h0]
  clear c1 h0
  obtain rfl := HX.out
  have ln := (HNX.out.below HBX0.out HNX.out.lt).ld zPf_ok
  have hrv := HRX.out.below HBX0.out HRX.out.lt
  have stz : stA 53 ((W.alloc (.cells (pfC zPf (.slice none 0 0)) 53)).alloc (.cells (pfC zPf (.slice none 0 0)) 53)) (.pointer (some ⟨W.heap.size, 0, none⟩)) (.agg (pfC zPf (.slice none 0 0))) = .ok .skip (((W.alloc (.cells (pfC zPf (.slice none 0 0)) 53)).alloc (.cells (pfC zPf (.slice none 0 0)) 53)).setRow W.heap.size (pfC zPf (.slice none 0 0))) := stA_row hrv (by rw [pfC_size zPf_ok]; exact infoPf) rfl (pfC_one _ _ _ _)
  have HROW : Hid (PfAt (((W.alloc (.cells (pfC zPf (.slice none 0 0)) 53)).alloc (.cells (pfC zPf (.slice none 0 0)) 53)).setRow W.heap.size (pfC zPf (.slice none 0 0))) W.heap.size zPf (.slice none 0 0)) := setRow_heap _ _ _ _ _ _ hrv
  have HBF : Hid (Below W.heap.size W (((W.alloc (.cells (pfC zPf (.slice none 0 0)) 53)).alloc (.cells (pfC zPf (.slice none 0 0)) 53)).setRow W.heap.size (pfC zPf (.slice none 0 0)))) := Bt.below_row (HB.out.trans (HBX0.out.mono HB.out.size)) (Nat.le_refl _) _
  have HDE := Lib.hid (he)
  clear hrv he
  go_enter Tryz.func32, Tryz.ntmps32
  go_wp2_with fail
  refine bodyPost_ret ?_ rfl ⟨none, 0, by rw [HDE.out, decQ_bad (by rw [HDE.out]; decide)], by rw [decQ_bad (by rw [HDE.out]; decide)]; exact DS.nil _ _, by rw [decQ_bad (by rw [HDE.out]; decide)]; exact Nat.le_refl _, HBF.out⟩
  exact results_row_tmp Tryz.results32 _ _ W.heap.size _ _ rfl rfl (run_loadVar_row (P := Tryz.prog) _ _ 53 53 (pfC zPf (.slice none 0 0)) (0, 0) _ HROW.out Tryz.underlying53 rfl (by rw [pfC_size zPf_ok]; exact infoPf))
 have d2 : ((at8 b 0 : Int) == 1) = true := by rw [h0]; rfl
 by_cases h1 : 1 < at8 b 1
 ·have d3 : decide ((1 : Int) < (at8 b 1 : Int)) = true := decide_eq_true (by omega)
  have he : decE b = 7 := by unfold decE; rw [if_neg (by omega), if_neg (by omega), if_pos h1]
  clear h0 h1
  obtain rfl := HX.out
  have ln := (HNX.out.below HBX0.out HNX.out.lt).ld zPf_ok
  have hrv := HRX.out.below HBX0.out HRX.out.lt
  have stz : stA 53 ((W.alloc (.cells (pfC zPf (.slice none 0 0)) 53)).alloc (.cells (pfC zPf (.slice none 0 0)) 53)) (.pointer (some ⟨W.heap.size, 0, none⟩)) (.agg (pfC zPf (.slice none 0 0))) = .ok .skip (((W.alloc (.cells (pfC zPf (.slice none 0 0)) 53)).alloc (.cells (pfC zPf (.slice none 0 0)) 53)).setRow W.heap.size (pfC zPf (.slice none 0 0))) := stA_row hrv (by rw [pfC_size zPf_ok]; exact infoPf) rfl (pfC_one _ _ _ _)
  have HROW : Hid (PfAt (((W.alloc (.cells (pfC zPf (.slice none 0 0)) 53)).alloc (.cells (pfC zPf (.slice none 0 0)) 53)).setRow W.heap.size (pfC zPf (.slice none 0 0))) W.heap.size zPf (.slice none 0 0)) := setRow_heap _ _ _ _ _ _ hrv
  have HBF : Hid (Below W.heap.size W (((W.alloc (.cells (pfC zPf (.slice none 0 0)) 53)).alloc (.cells (pfC zPf (.slice none 0 0)) 53)).setRow W.heap.size (pfC zPf (.slice none 0 0)))) := Bt.below_row (HB.out.trans (HBX0.out.mono HB.out.size)) (Nat.le_refl _) _
  have HDE := Lib.hid (he)
  clear hrv he
  go_enter Tryz.func32, Tryz.ntmps32
  go_wp2_with fail
  refine bodyPost_ret ?_ rfl ⟨none, 0, by rw [HDE.out, decQ_bad (by rw [HDE.out]; decide)], by rw [decQ_bad (by rw [HDE.out]; decide)]; exact DS.nil _ _, by rw [decQ_bad (by rw [HDE.out]; decide)]; exact Nat.le_refl _, HBF.out⟩
  exact results_row_tmp Tryz.results32 _ _ W.heap.size _ _ rfl rfl (run_loadVar_row (P := Tryz.prog) _ _ 53 53 (pfC zPf (.slice none 0 0)) (0, 0) _ HROW.out Tryz.underlying53 rfl (by rw [pfC_size zPf_ok]; exact infoPf))
 have d3 : decide ((1 : Int) < (at8 b 1 : Int)) = false := decide_eq_false (by omega)
 have HPT : Hid (∀ w, Below X.heap.size X w → Calls Tryz.prog 61 #[.slice (some ⟨g, o, none⟩) b.length c, .int .i64 4] w fun e w' => e = .returned (.agg (bA (partL b 4))) ∧ Below w.heap.size w w') := fun w h => part_c _ c 4 b w (HA.out.below (HB.out.trans (h.mono HB.out.size))) (by omega) HLE.out
 have L1 : Hid (∀ w, Below X.heap.size X w → w.cell? ⟨g, o + 1, none⟩ = some (.int .u8 (at8 b 1 : Int))) := fun w h => HCE.out 1 (by omega) w (HB.out.trans (h.mono HB.out.size))
 have L2 : Hid (∀ w, Below X.heap.size X w → w.cell? ⟨g, o + 2, none⟩ = some (.int .u8 (at8 b 2 : Int))) := fun w h => HCE.out 2 (by omega) w (HB.out.trans (h.mono HB.out.size))
 have L3 : Hid (∀ w, Below X.heap.size X w → w.cell? ⟨g, o + 3, none⟩ = some (.int .u8 (at8 b 3 : Int))) := fun w h => HCE.out 3 (by omega) w (HB.out.trans (h.mono HB.out.size))
 obtain ⟨kd, hkd⟩ : ∃ kd, kd = at8 b 1 := ⟨_, rfl⟩
 obtain ⟨e2, he2⟩ : ∃ x, x = at8 b 2 := ⟨_, rfl⟩
 obtain ⟨e3, he3⟩ : ∃ x, x = at8 b 3 := ⟨_, rfl⟩
 obtain ⟨bm, hbm⟩ : ∃ x, x = partL b 4 := ⟨_, rfl⟩
 have HBML : Hid (bm.length = 32) := by show _ = _; rw [hbm]; exact part_len (by omega)
 rw [← hbm] at HPT
 rw [← hkd] at L1 c1 d3 HBL0
 rw [← he2] at L2 HBL0
 rw [← he3] at L3 HBL0
 have HKD := Lib.hid hkd
 have HE2 := Lib.hid he2
 have HE3 := Lib.hid he3
 have HBM := Lib.hid hbm
 have H0 := Lib.hid h0
 have HKL : Hid (kd ≤ 1) := by show _ ≤ _; omega
 have HB36 := Lib.hid hb36
 have b0 := HBL0.out.2.2.1
 have b1 := HBL0.out.2.2.2
 have b2 := HKL.out
 have wk : IntKind.i64.wrap (kd : Int) = kd := wrap17 (by omega) (by omega)
 have we2 : IntKind.i64.wrap (e2 : Int) = e2 := wrap17 (by omega) (by omega)
 have we3 : IntKind.i64.wrap (e3 : Int) = e3 := wrap17 (by omega) (by omega)
 have we4 : IntKind.i64.wrap (256 * (e2 : Int)) = 256 * (e2 : Int) := wrap17 (by omega) (by omega)
 have we5 : IntKind.i64.wrap (256 * (e2 : Int) + (e3 : Int)) = 256 * (e2 : Int) + (e3 : Int) := wrap17 (by omega) (by omega)
 have bd := bldPf_kb kd (256 * (e2 : Int) + (e3 : Int)) bm HBML.out
 have c0 : X.cell? ⟨g, o, none⟩ = some (.int .u8 1) := by rw [c0, h0]; rfl
 rw [HX.out] at c0 c1
 have j1 : (1 : Int) < (b.length : Int) := by omega
 have j2 : (2 : Int) < (b.length : Int) := by omega
 have j3 : (3 : Int) < (b.length : Int) := by omega
 clear hkd he2 he3 hbm h0 h1 hb36 d2
 go_enter Tryz.func32, Tryz.ntmps32
 go_wp2_with fail
 rw [← HX.out]
 rename_i K0 hK0
 have HREST : Hid (∀ (g5 : Nat) (w8 : World), Below X.heap.size X w8 → X.heap.size ≤ g5 → PfAt w8 g5 ⟨(kd : Int), 256 * (e2 : Int) + (e3 : Int), z64, bm, []⟩ (.slice none 0 0) → K0 { tmps := #[.slice (some ⟨g, o, none⟩) b.length c, undef, .pointer (some ⟨W.heap.size, 0, none⟩), .int .i64 0, .pointer (some ⟨W.heap.size + 1, 0, none⟩), .pointer (some ⟨g5, 0, none⟩), undef, .slice (some ⟨g, o, none⟩) b.length c, .int .i64 (b.length : Int), .bool false, undef, .slice (some ⟨g, o, none⟩) b.length c, .pointer (some ⟨g, o, none⟩), .int .u8 1, .bool false, undef, .slice (some ⟨g, o, none⟩) b.length c, .pointer (some ⟨g, o + 1, none⟩), .int .u8 (kd : Int), .bool false, undef, .slice (some ⟨g, o, none⟩) b.length c, .pointer (some ⟨g, o + 1, none⟩), .int .u8 (kd : Int), .int .i64 (kd : Int), .slice (some ⟨g, o, none⟩) b.length c, .pointer (some ⟨g, o + 2, none⟩), .int .u8 (e2 : Int), .int .i64 (e2 : Int), .int .i64 (256 * (e2 : Int)), .slice (some ⟨g, o, none⟩) b.length c, .pointer (some ⟨g, o + 3, none⟩), .int .u8 (e3 : Int), .int .i64 (e3 : Int), .int .i64 (256 * (e2 : Int) + (e3 : Int)), .slice (some ⟨g, o, none⟩) b.length c, .agg (bA bm), .agg (pfC ⟨(kd : Int), 256 * (e2 : Int) + (e3 : Int), z64, bm, []⟩ (.slice none 0 0)), undef, undef, undef, undef, undef, undef, undef, undef, undef, undef, undef, undef, undef, undef, undef, undef, undef, undef, undef, undef, undef, undef, undef, undef, undef, undef, undef, undef, undef, undef, undef, undef, undef, undef, undef, undef, undef, undef, undef, undef, undef, undef, undef, undef, undef], defers := [] } w8) := by
  intro g5 w8 hb8 hg5 hP5
  refine hK0 _ _ ?_
  have HB8 := Lib.hid hb8
  have HG5 := Lib.hid hg5
  have HP5 := Lib.hid hP5
  have HKD1 : Hid (at8 b 1 ≤ 1) := by show _ ≤ _; rw [← HKD.out]; exact HKL.out
  clear hb8 hg5 hP5
  rcases (show kd = 0 ∨ kd = 1 by omega) with hk | hk
  ·have c5 : w8.cell? ⟨g5, 0, none⟩ = some (.int .i64 0) := by have h := HP5.out.kind; rw [show ((kd : Nat) : Int) = 0 by omega] at h; exact h
   have HRS : Hid (restP b = 36) := by show _ = _; unfold restP; rw [if_neg (by rw [← HKD.out]; omega)]
   have HRL0 : Hid (36 ≤ b.length) := HB36.out
   have HLFL : Hid ((z64).length = 64) := rfl
   have HKZ := Lib.hid hk
   clear hk
   go_wp2_with fail
   obtain ⟨rs, hrs⟩ : ∃ rs, rs = b.drop 36 := ⟨_, rfl⟩
   have HRSE := Lib.hid hrs
   have HP1O : Hid (Pf.Ok ⟨(kd : Int), 256 * (e2 : Int) + (e3 : Int), z64, bm, []⟩) := ⟨HLFL.out, HBML.out, fun s h => by simp at h⟩
   have HGV : Hid (g5 < w8.heap.size) := HP5.out.lt
   clear hrs
   go_loopg [6] 258 (fun gg aa wr => ∃ (k : Nat) (As : Option Addr) (cs : Nat), aa = .int .i64 (36 + 32 * (k : Int)) ∧ 36 + 32 * k ≤ b.length ∧ k ≤ 257 ∧ 258 - k ≤ gg ∧ PfAt wr g5 ⟨(kd : Int), 256 * (e2 : Int) + (e3 : Int), z64, bm, []⟩ (.slice As (chunks rs k).length cs) ∧ OwnD wr w8.heap.size (.slice As (chunks rs k).length cs) (chunks rs k) ∧ Keep (fun i => i = g5) w8 wr)
   case atStart => exact ⟨0, none, 0, rfl, by have := HRL0.out; omega, by omega, by omega, HP5.out, OwnD.nil _ _, Keep.refl _ _⟩
   case round =>
    obtain ⟨k, As, cs, rfl, hle, hk, hgg, hP, hO, hK⟩ := hrel
    have HBR : Hid (Below X.heap.size X wr) := HB8.out.trans (hK.below HB8.out.size fun i e => by have e : i = g5 := e; have := HG5.out; omega)
    have HVR : Hid (w8.heap.size ≤ wr.heap.size) := hK.size
    have HKR := Lib.hid hK
    have HPR := Lib.hid hP
    have HO := Lib.hid hO
    have hb6 := HLE.out
    have ww : IntKind.i64.wrap ((36 + 32 * (k : Int)) + 32) = (36 + 32 * (k : Int)) + 32 := wrap17 (by omega) (by omega)
    have c98 := hP.sib HP1O.out
    have hcl : (chunks rs k).length = k := chunks_len rs k
    clear hK hP hO
    by_cases h1 : 36 + 32 * k + 32 ≤ b.length
    ·have d1 : decide ((36 + 32 * (k : Int)) + 32 ≤ (b.length : Int)) = true := decide_eq_true (by omega)
     by_cases h2 : k ≤ 256
     ·have d2 : decide (((chunks rs k).length : Int) ≤ 256) = true := decide_eq_true (by omega)
      obtain ⟨rt, hrt⟩ : ∃ rt, rt = partL b (36 + 32 * k) := ⟨_, rfl⟩
      have HRL : Hid (rt.length = 32) := by show _ = _; rw [hrt]; exact part_len h1
      have HCH : Hid (chunks rs (k + 1) = chunks rs k ++ [rt]) := by show _ = _; rw [hrt, HRSE.out]; exact chunks_part b 36 k
      have HMM : Hid (∀ s ∈ chunks rs k ++ [rt], s.length = 32) := fun s hs => by
       rw [← HCH.out] at hs
       exact chunks_each (by rw [HRSE.out, List.length_drop]; omega) s hs
      have HSL : Hid ((chunks rs k).length ≤ 1000000) := by show _ ≤ _; omega
      have HRC : Hid (∀ w, Below wr.heap.size wr w → Calls Tryz.prog 61 #[.slice (some ⟨g, o, none⟩) b.length c, .int .i64 (36 + 32 * (k : Int))] w fun e w' => e = .returned (.agg (bA rt)) ∧ Below w.heap.size w w') := fun w h => by
       have hp := part_c (some ⟨g, o, none⟩) c (36 + 32 * k) b w (HA.out.below (HB.out.trans ((HBR.out.trans (h.mono HBR.out.size)).mono HB.out.size))) h1 HLE.out
       rw [← hrt, show ((36 + 32 * k : Nat) : Int) = (36 + 32 * (k : Int)) by omega] at hp
       exact hp
      have LB : Hid (∀ q, Below w8.heap.size wr q → q.cell? ⟨g5, 98, none⟩ = some (.slice As (chunks rs k).length cs)) := fun q h => (HPR.out.below h HGV.out).sib HP1O.out
      have bsx := bsD_one rt HRL.out
      clear hrt hcl
      go_wp2_with fail
      refine region_heldT 8 (fun q => Below w8.heap.size wr q) (by kernel_rfl) ?_
      have hHeld : Below w8.heap.size wr wr.drew := (Below.refl _ _).drew
      refine HeldT.take (i := 0) (oi := { dst := some 62, op := .fieldAddr _ (.tmp 5) 4, .. }) (v := ?_) rfl (by kernel_rfl) (by kernel_rfl) (by kernel_rfl) (by kernel_rfl) (fun _ _ _ h => h) (Or.inl ⟨by rfl, ?_⟩) (by assumption) ?_
      rotate_left 1
      ·intro v hSv
       clear hSv
       go_simp
       try with_reducible rfl
      try simp only [Act.put, x_A, x_0, x_1]
      refine HeldT.take (i := 1) (oi := { dst := some 63, op := .load _ (.tmp 62), .. }) (v := ?_) rfl (by kernel_rfl) (by kernel_rfl) (by kernel_rfl) (by kernel_rfl) (fun _ _ _ h => h) (Or.inl ⟨by rfl, ?_⟩) (by assumption) ?_
      rotate_left 1
      ·intro v hSv
       have hv1 := LB.out v hSv
       clear hSv
       go_simp
       try with_reducible rfl
      try simp only [Act.put, x_A, x_0, x_1]
      refine HeldT.take (i := 2) (oi := { dst := some 64, op := .move (.tmp 0), .. }) (v := ?_) rfl (by kernel_rfl) (by kernel_rfl) (by kernel_rfl) (by kernel_rfl) (fun _ _ _ h => h) (Or.inl ⟨by rfl, ?_⟩) (by assumption) ?_
      rotate_left 1
      ·intro v hSv
       clear hSv
       go_simp
       try with_reducible rfl
      try simp only [Act.put, x_A, x_0, x_1]
      refine HeldT.take (i := 3) (oi := { dst := some 65, op := .move (.tmp 6), .. }) (v := ?_) rfl (by kernel_rfl) (by kernel_rfl) (by kernel_rfl) (by kernel_rfl) (fun _ _ _ h => h) (Or.inl ⟨by rfl, ?_⟩) (by assumption) ?_
      rotate_left 1
      ·intro v hSv
       clear hSv
       go_simp
       try with_reducible rfl
      try simp only [Act.put, x_A, x_0, x_1]
      refine HeldT.one (i := 4) (o := { dst := some 66, op := .call _, .. }) (by kernel_rfl) rfl rfl (fun K hK => ?_)
      go_wp2_with fail
      refine (HRC.out _ ((Below.refl _ _).drew)).mono ?_
      rintro e y1 ⟨rfl, hb⟩
      have hq1 : Below wr.heap.size wr y1 := ((Below.refl _ _).drew).trans hb
      have HQ1 := Lib.hid hq1
      clear hb
      go_wp2_with fail
      refine hK.out _ _ (fun _ => hq1.mono HVR.out) (fun hS => ?_)
      have hHeld := hS (by decide)
      clear hS hK K
      try simp only [Act.put, x_A, x_0, x_1]
      clear hq1
      refine HeldT.one (i := 5) (o := { dst := some 67, op := .buildSlice _ _ _, .. }) (by kernel_rfl) rfl rfl (fun K hK => ?_)
      obtain ⟨Z, hZ⟩ : ∃ Z, Z = y1.alloc (.cells (bA rt) 47) := ⟨_, rfl⟩
      have hq2 : Below wr.heap.size wr Z := by rw [hZ]; exact HQ1.out.alloc HQ1.out.size _
      have HZR : Hid (Z.rangeAt y1.heap.size 0 (dC rt)) := by show World.rangeAt _ _ _ _; rw [hZ]; exact dig_made _ _ _
      have HQ2 := Lib.hid hq2
      have HZ := Lib.hid hZ
      clear hZ HQ1
      go_wp2_with fail
      rw [← HZ.out]
      refine hK.out _ _ (fun _ => hq2.mono HVR.out) (fun hS => ?_)
      have hHeld := hS (by decide)
      clear hS hK K
      try simp only [Act.put, x_A, x_0, x_1]
      clear hq2 HZ
      refine HeldT.one (i := 6) (o := { dst := some 68, op := .call _, .. }) (by kernel_rfl) rfl rfl (fun K hK => ?_)
      have HOZ := Lib.hid (HO.out.below HQ2.out)
      have hzs : w8.heap.size ≤ Z.heap.size := Nat.le_trans HVR.out HQ2.out.size
      go_wp2_with (at_builtin; refine wpList_pushD rfl _ _ rfl w8.heap.size (.slice As (chunks rs k).length cs) (chunks rs k) rfl HOZ.out y1.heap.size rt HRL.out rfl HZR.out HSL.out hzs ?_; intro v9 w9 hO9 hG9; obtain ⟨A9, c9, rfl, _, _⟩ := hO9.ds HMM.out)
      have HO9 := Lib.hid hO9
      have HS9 : Hid (Below w8.heap.size wr w9) := (HQ2.out.mono HVR.out).trans ((Below.refl _ _).grown hG9.by_ hzs HOZ.out.ge)
      refine hK.out _ _ (fun _ => HS9.out) (fun hS => ?_)
      have hHeld := hS (by decide)
      clear hS hK K
      try simp only [Act.put, x_A, x_0, x_1]
      clear hO9 hG9 hzs HOZ HZR
      refine HeldT.take (i := 7) (oi := { dst := some 69, op := .fieldAddr _ (.tmp 5) 4, .. }) (v := ?_) rfl (by kernel_rfl) (by kernel_rfl) (by kernel_rfl) (by kernel_rfl) (fun _ _ _ h => h) (Or.inl ⟨by rfl, ?_⟩) (by assumption) ?_
      rotate_left 1
      ·intro v hSv
       clear hSv
       go_simp
       try with_reducible rfl
      try simp only [Act.put, x_A, x_0, x_1]
      refine HeldT.one (i := 8) (o := { dst := none, op := .store _ (.tmp 69) (.tmp 68), .. }) (by kernel_rfl) rfl rfl (fun K hK => ?_)
      have hP9 : PfAt w9 g5 ⟨(kd : Int), 256 * (e2 : Int) + (e3 : Int), z64, bm, []⟩ (.slice As (chunks rs k).length cs) := HPR.out.below HS9.out HGV.out
      have hcell := hP9.sib HP1O.out
      have hfree : w9.frozen? ⟨g5, 98, none⟩ = false := frozen_of_row w9 _ _ _ _ hP9
      obtain ⟨HPW, HOW, HKW⟩ := rp_end17 HGV.out HP1O.out HKR.out HS9.out HO9.out hP9
      clear hP9
      go_wp2_with fail
      refine hK.out _ _ (fun h => absurd rfl h) (fun _ => ?_)
      clear hK K
      refine HeldT.done (by kernel_rfl) ?_ _
      go_wp2
      go_roundg (258 - (k + 1))
      case measure => omega
      case rel =>
       have e9 : (chunks rs (k + 1)).length = (chunks rs k).length + 1 := by rw [chunks_len, chunks_len]
       rw [List.length_append, List.length_singleton] at HPW HOW HKW
       refine ⟨k + 1, A9, c9, by go_num, by omega, by omega, by omega, ?_, ?_, HKW.out⟩
       ·rw [e9]; exact HPW.out
       ·rw [e9, HCH.out]; exact HOW.out
     ·have d2 : decide (((chunks rs k).length : Int) ≤ 256) = false := decide_eq_false (by omega)
      clear hcl
      have HFIN := Lib.hid (dec_fin HB36.out H0.out HKD1.out (by rw [HRS.out]; exact hle) (by rw [HRS.out]; exact .inr (by omega)))
      have heq : 36 + 32 * k ≠ b.length := by omega
      have d4 : ¬ ((36 + 32 * (k : Int)) = (b.length : Int)) := by omega
      have ln := (HNX.out.below HBR.out HNX.out.lt).ld zPf_ok
      have hrv := HRX.out.below HBR.out HRX.out.lt
      have stz : stA 53 wr (.pointer (some ⟨W.heap.size, 0, none⟩)) (.agg (pfC zPf (.slice none 0 0))) = .ok .skip (wr.setRow W.heap.size (pfC zPf (.slice none 0 0))) := stA_row hrv (by rw [pfC_size zPf_ok]; exact infoPf) rfl (pfC_one _ _ _ _)
      have HROW : Hid (PfAt (wr.setRow W.heap.size (pfC zPf (.slice none 0 0))) W.heap.size zPf (.slice none 0 0)) := setRow_heap _ _ _ _ _ _ hrv
      have HBF : Hid (Below W.heap.size W (wr.setRow W.heap.size (pfC zPf (.slice none 0 0)))) := Bt.below_row (HB.out.trans (HBR.out.mono HB.out.size)) (Nat.le_refl _) _
      have HDE := Lib.hid (HFIN.out.1 (by rw [HRS.out]; exact heq))
      clear hrv HO HPR HKR
      go_wp2_with fail
      refine bodyPost_ret ?_ rfl ⟨none, 0, by rw [HDE.out, decQ_bad (by rw [HDE.out]; decide)], by rw [decQ_bad (by rw [HDE.out]; decide)]; exact DS.nil _ _, by rw [decQ_bad (by rw [HDE.out]; decide)]; exact Nat.le_refl _, HBF.out⟩
      exact results_row_tmp Tryz.results32 _ _ W.heap.size _ _ rfl rfl (run_loadVar_row (P := Tryz.prog) _ _ 53 53 (pfC zPf (.slice none 0 0)) (0, 0) _ HROW.out Tryz.underlying53 rfl (by rw [pfC_size zPf_ok]; exact infoPf))
    ·have d1 : decide ((36 + 32 * (k : Int)) + 32 ≤ (b.length : Int)) = false := decide_eq_false (by omega)
     clear hcl
     have HFIN := Lib.hid (dec_fin HB36.out H0.out HKD1.out (by rw [HRS.out]; exact hle) (by rw [HRS.out]; exact .inl h1))
     by_cases heq : 36 + 32 * k = b.length
     rotate_left 1
     ·have d4 : ¬ ((36 + 32 * (k : Int)) = (b.length : Int)) := by omega
      have ln := (HNX.out.below HBR.out HNX.out.lt).ld zPf_ok
      have hrv := HRX.out.below HBR.out HRX.out.lt
      have stz : stA 53 wr (.pointer (some ⟨W.heap.size, 0, none⟩)) (.agg (pfC zPf (.slice none 0 0))) = .ok .skip (wr.setRow W.heap.size (pfC zPf (.slice none 0 0))) := stA_row hrv (by rw [pfC_size zPf_ok]; exact infoPf) rfl (pfC_one _ _ _ _)
      have HROW : Hid (PfAt (wr.setRow W.heap.size (pfC zPf (.slice none 0 0))) W.heap.size zPf (.slice none 0 0)) := setRow_heap _ _ _ _ _ _ hrv
      have HBF : Hid (Below W.heap.size W (wr.setRow W.heap.size (pfC zPf (.slice none 0 0)))) := Bt.below_row (HB.out.trans (HBR.out.mono HB.out.size)) (Nat.le_refl _) _
      have HDE := Lib.hid (HFIN.out.1 (by rw [HRS.out]; exact heq))
      clear hrv HO HPR HKR
      go_wp2_with fail
      refine bodyPost_ret ?_ rfl ⟨none, 0, by rw [HDE.out, decQ_bad (by rw [HDE.out]; decide)], by rw [decQ_bad (by rw [HDE.out]; decide)]; exact DS.nil _ _, by rw [decQ_bad (by rw [HDE.out]; decide)]; exact Nat.le_refl _, HBF.out⟩
      exact results_row_tmp Tryz.results32 _ _ W.heap.size _ _ rfl rfl (run_loadVar_row (P := Tryz.prog) _ _ 53 53 (pfC zPf (.slice none 0 0)) (0, 0) _ HROW.out Tryz.underlying53 rfl (by rw [pfC_size zPf_ok]; exact infoPf))
     ·have d4 : ((36 + 32 * (k : Int)) = (b.length : Int)) := by omega
      have hRAW : rawP b = ⟨(kd : Int), 256 * (e2 : Int) + (e3 : Int), z64, bm, chunks rs k⟩ := by
       have h := (HFIN.out.2 (by rw [HRS.out]; exact heq)).1
       unfold rawP
       rw [h, HRS.out, ← HRSE.out, ← HKD.out, ← HE2.out, ← HE3.out]
       rw [if_neg (by have := HKZ.out; omega)]
       rw [HBM.out]; rfl
      have hok : Pf.Ok ⟨(kd : Int), 256 * (e2 : Int) + (e3 : Int), z64, bm, chunks rs k⟩ := by rw [← hRAW]; exact rawP_ok HB36.out (by rw [HRS.out]; omega)
      have HPK : Hid (PfAt wr g5 ⟨(kd : Int), 256 * (e2 : Int) + (e3 : Int), z64, bm, chunks rs k⟩ (.slice As (chunks rs k).length cs)) := HPR.out
      have lpk := HPK.out.ld hok
      have HCK := Lib.hid (rcheck_c ⟨(kd : Int), 256 * (e2 : Int) + (e3 : Int), z64, bm, chunks rs k⟩ hok As cs wr)
      obtain ⟨z, hz⟩ : ∃ z, z = chkP ⟨(kd : Int), 256 * (e2 : Int) + (e3 : Int), z64, bm, chunks rs k⟩ := ⟨_, rfl⟩
      rw [← hz] at HCK
      have HZE := Lib.hid hz
      have HRAW := Lib.hid hRAW
      have HOK := Lib.hid hok
      have HEQ := Lib.hid heq
      clear hz hRAW hok heq
      go_wp2_with fail
      refine HCK.out.mono ?_
      rintro _ wc ⟨rfl, hbc⟩
      have HBC : Hid (Below X.heap.size X wc) := HBR.out.trans (hbc.mono HBR.out.size)
      have HPC : Hid (PfAt wc g5 ⟨(kd : Int), 256 * (e2 : Int) + (e3 : Int), z64, bm, chunks rs k⟩ (.slice As (chunks rs k).length cs)) := HPK.out.below hbc HPK.out.lt
      have HOC := Lib.hid (HO.out.below hbc)
      by_cases hz0 : z = 0
      rotate_left 1
      ·have d5 : (z == 0) = false := by simpa using hz0
       clear hbc lpk
       have ln := (HNX.out.below HBC.out HNX.out.lt).ld zPf_ok
       have hrv := HRX.out.below HBC.out HRX.out.lt
       have stz : stA 53 wc (.pointer (some ⟨W.heap.size, 0, none⟩)) (.agg (pfC zPf (.slice none 0 0))) = .ok .skip (wc.setRow W.heap.size (pfC zPf (.slice none 0 0))) := stA_row hrv (by rw [pfC_size zPf_ok]; exact infoPf) rfl (pfC_one _ _ _ _)
       have HROW : Hid (PfAt (wc.setRow W.heap.size (pfC zPf (.slice none 0 0))) W.heap.size zPf (.slice none 0 0)) := setRow_heap _ _ _ _ _ _ hrv
       have HBF : Hid (Below W.heap.size W (wc.setRow W.heap.size (pfC zPf (.slice none 0 0)))) := Bt.below_row (HB.out.trans (HBC.out.mono HB.out.size)) (Nat.le_refl _) _
       have HDE := Lib.hid ((HFIN.out.2 (by rw [HRS.out]; exact HEQ.out)).2.1 (by rw [HRAW.out, ← HZE.out]; exact hz0))
       clear hrv HO HPR HKR
       go_wp2_with fail
       refine bodyPost_ret ?_ rfl ⟨none, 0, by rw [HDE.out, decQ_bad (by rw [HDE.out]; decide)], by rw [decQ_bad (by rw [HDE.out]; decide)]; exact DS.nil _ _, by rw [decQ_bad (by rw [HDE.out]; decide)]; exact Nat.le_refl _, HBF.out⟩
       exact results_row_tmp Tryz.results32 _ _ W.heap.size _ _ rfl rfl (run_loadVar_row (P := Tryz.prog) _ _ 53 53 (pfC zPf (.slice none 0 0)) (0, 0) _ HROW.out Tryz.underlying53 rfl (by rw [pfC_size zPf_ok]; exact infoPf))
      ·have lc := HPC.out.ld HOK.out
       have hrv := HRX.out.below HBC.out HRX.out.lt
       have stz : stA 53 wc (.pointer (some ⟨W.heap.size, 0, none⟩)) (.agg (pfC ⟨(kd : Int), 256 * (e2 : Int) + (e3 : Int), z64, bm, chunks rs k⟩ (.slice As (chunks rs k).length cs))) = .ok .skip (wc.setRow W.heap.size (pfC ⟨(kd : Int), 256 * (e2 : Int) + (e3 : Int), z64, bm, chunks rs k⟩ (.slice As (chunks rs k).length cs))) := stA_row hrv (by rw [pfC_size HOK.out]; exact infoPf) (by rw [pfC_size HOK.out, pfC_size zPf_ok]) (pfC_one _ _ _ _)
       have HROW : Hid (PfAt (wc.setRow W.heap.size (pfC ⟨(kd : Int), 256 * (e2 : Int) + (e3 : Int), z64, bm, chunks rs k⟩ (.slice As (chunks rs k).length cs))) W.heap.size ⟨(kd : Int), 256 * (e2 : Int) + (e3 : Int), z64, bm, chunks rs k⟩ (.slice As (chunks rs k).length cs)) := setRow_heap _ _ _ _ _ _ hrv
       have HBF : Hid (Below W.heap.size W (wc.setRow W.heap.size (pfC ⟨(kd : Int), 256 * (e2 : Int) + (e3 : Int), z64, bm, chunks rs k⟩ (.slice As (chunks rs k).length cs)))) := Bt.below_row (HB.out.trans (HBC.out.mono HB.out.size)) (Nat.le_refl _) _
       have HDE : Hid (decE b = 0) := (HFIN.out.2 (by rw [HRS.out]; exact HEQ.out)).2.2 (by rw [HRAW.out, ← HZE.out]; exact hz0)
       have HDQ : Hid (decQ b = ⟨(kd : Int), 256 * (e2 : Int) + (e3 : Int), z64, bm, chunks rs k⟩) := (decQ_raw HDE.out).trans HRAW.out
       have HWX : Hid (W.heap.size < X.heap.size ∧ X.heap.size ≤ w8.heap.size) := ⟨HRX.out.lt, HB8.out.size⟩
       have HDS : Hid (DS (wc.setRow W.heap.size (pfC ⟨(kd : Int), 256 * (e2 : Int) + (e3 : Int), z64, bm, chunks rs k⟩ (.slice As (chunks rs k).length cs))) As (chunks rs k)) := by
        have h1 : OwnD (wc.setRow W.heap.size (pfC ⟨(kd : Int), 256 * (e2 : Int) + (e3 : Int), z64, bm, chunks rs k⟩ (.slice As (chunks rs k).length cs))) w8.heap.size (.slice As (chunks rs k).length cs) (chunks rs k) := row11_other HOC.out fun q cs' hg hh => by
         have hge := HOC.out.ge q hg
         rw [setRow_other _ _ _ _ (by have := HWX.out; omega)]
         exact hh
        exact h1.dsA HOK.out.sib
       have HCC : Hid ((chunks rs k).length ≤ cs) := by
        obtain ⟨A8, c8, e8, _, h8⟩ := HOC.out.ds HOK.out.sib
        cases e8
        exact h8
       subst hz0
       clear hrv hbc lpk
       go_wp2_with fail
       refine bodyPost_ret ?_ rfl ⟨As, cs, by rw [HDE.out, HDQ.out], by rw [HDQ.out]; exact HDS.out, by rw [HDQ.out]; exact HCC.out, HBF.out⟩
       exact results_row_tmp Tryz.results32 _ _ W.heap.size _ _ rfl rfl (run_loadVar_row (P := Tryz.prog) _ _ 53 53 (pfC ⟨(kd : Int), 256 * (e2 : Int) + (e3 : Int), z64, bm, chunks rs k⟩ (.slice As (chunks rs k).length cs)) (0, 0) _ HROW.out Tryz.underlying53 rfl (by rw [pfC_size HOK.out]; exact infoPf))
  ·by_cases h100 : b.length < 100
   ·have c5 : w8.cell? ⟨g5, 0, none⟩ = some (.int .i64 1) := by have h := HP5.out.kind; rw [show ((kd : Nat) : Int) = 1 by omega] at h; exact h
    have d6 : decide ((b.length : Int) < 100) = true := decide_eq_true (by omega)
    have he : decE b = 5 := by
     unfold decE restP
     rw [if_neg (by have := HB36.out; omega), if_neg (by have := H0.out; omega), if_neg (by have := HKD1.out; omega), if_pos (by rw [if_pos (by rw [← HKD.out]; exact hk)]; exact h100)]
    clear hk h100
    have ln := (HNX.out.below HB8.out HNX.out.lt).ld zPf_ok
    have hrv := HRX.out.below HB8.out HRX.out.lt
    have stz : stA 53 w8 (.pointer (some ⟨W.heap.size, 0, none⟩)) (.agg (pfC zPf (.slice none 0 0))) = .ok .skip (w8.setRow W.heap.size (pfC zPf (.slice none 0 0))) := stA_row hrv (by rw [pfC_size zPf_ok]; exact infoPf) rfl (pfC_one _ _ _ _)
    have HROW : Hid (PfAt (w8.setRow W.heap.size (pfC zPf (.slice none 0 0))) W.heap.size zPf (.slice none 0 0)) := setRow_heap _ _ _ _ _ _ hrv
    have HBF : Hid (Below W.heap.size W (w8.setRow W.heap.size (pfC zPf (.slice none 0 0)))) := Bt.below_row (HB.out.trans (HB8.out.mono HB.out.size)) (Nat.le_refl _) _
    have HDE := Lib.hid (he)
    clear hrv he
    go_wp2_with fail
    refine bodyPost_ret ?_ rfl ⟨none, 0, by rw [HDE.out, decQ_bad (by rw [HDE.out]; decide)], by rw [decQ_bad (by rw [HDE.out]; decide)]; exact DS.nil _ _, by rw [decQ_bad (by rw [HDE.out]; decide)]; exact Nat.le_refl _, HBF.out⟩
    exact results_row_tmp Tryz.results32 _ _ W.heap.size _ _ rfl rfl (run_loadVar_row (P := Tryz.prog) _ _ 53 53 (pfC zPf (.slice none 0 0)) (0, 0) _ HROW.out Tryz.underlying53 rfl (by rw [pfC_size zPf_ok]; exact infoPf))
   ·have c5 : w8.cell? ⟨g5, 0, none⟩ = some (.int .i64 1) := by have h := HP5.out.kind; rw [show ((kd : Nat) : Int) = 1 by omega] at h; exact h
    have d6 : decide ((b.length : Int) < 100) = false := decide_eq_false (by omega)
    have HRS : Hid (restP b = 100) := by show _ = _; unfold restP; rw [if_pos (by rw [← HKD.out]; exact hk)]
    have HRL0 : Hid (100 ≤ b.length) := by show _ ≤ _; omega
    have HKZ := Lib.hid hk
    obtain ⟨p1, hp1⟩ : ∃ x, x = partL b 36 := ⟨_, rfl⟩
    obtain ⟨p2, hp2⟩ : ∃ x, x = partL b 68 := ⟨_, rfl⟩
    have HC36 : Hid (∀ w, Below X.heap.size X w → Calls Tryz.prog 61 #[.slice (some ⟨g, o, none⟩) b.length c, .int .i64 36] w fun e w' => e = .returned (.agg (bA p1)) ∧ Below w.heap.size w w') := fun w h => by rw [hp1]; exact part_c _ c 36 b w (HA.out.below (HB.out.trans (h.mono HB.out.size))) (by omega) HLE.out
    have HC68 : Hid (∀ w, Below X.heap.size X w → Calls Tryz.prog 61 #[.slice (some ⟨g, o, none⟩) b.length c, .int .i64 68] w fun e w' => e = .returned (.agg (bA p2)) ∧ Below w.heap.size w w') := fun w h => by rw [hp2]; exact part_c _ c 68 b w (HA.out.below (HB.out.trans (h.mono HB.out.size))) (by omega) HLE.out
    have HL1 : Hid (p1.length = 32) := by show _ = _; rw [hp1]; exact part_len (by omega)
    have HL2 : Hid (p2.length = 32) := by show _ = _; rw [hp2]; exact part_len (by omega)
    have HLFE : Hid (p1 ++ p2 = (b.drop 36).take 64) := by
     show _ = _
     rw [hp1, hp2]
     have h := List.take_add (l := b.drop 36) (i := 32) (j := 32)
     rw [List.drop_drop] at h
     exact h.symm
    have HLFL : Hid (((b.drop 36).take 64).length = 64) := by show _ = _; rw [List.length_take, List.length_drop]; omega
    clear hk h100 hp1 hp2
    go_wp2_with fail
    refine (HC36.out w8 HB8.out).mono ?_
    rintro _ y1 ⟨rfl, hb1⟩
    have HY1 : Hid (Below X.heap.size X y1) := HB8.out.trans (hb1.mono HB8.out.size)
    have HP51 : Hid (PfAt y1 g5 ⟨(kd : Int), 256 * (e2 : Int) + (e3 : Int), z64, bm, []⟩ (.slice none 0 0)) := HP5.out.below hb1 HP5.out.lt
    clear hb1 c5
    go_wp2_with fail
    refine (HC68.out y1 HY1.out).mono ?_
    rintro _ y2 ⟨rfl, hb2⟩
    have HY2 : Hid (Below X.heap.size X y2) := HY1.out.trans (hb2.mono HY1.out.size)
    have hP52 : PfAt y2 g5 ⟨(kd : Int), 256 * (e2 : Int) + (e3 : Int), z64, bm, []⟩ (.slice none 0 0) := HP51.out.below hb2 HP51.out.lt
    have bl := bldLeaf p1 p2 HL1.out HL2.out
    obtain ⟨stl, hPL⟩ := hP52.stLf ⟨by show (z64).length = 64; rfl, HBML.out, fun s h => by simp at h⟩ (p1 ++ p2) (by rw [HLFE.out]; exact HLFL.out)
    obtain ⟨w8', hw8⟩ : ∃ w, w = y2.setCells g5 2 ((p1 ++ p2).map bv) := ⟨_, rfl⟩
    rw [← hw8] at stl hPL
    have HB9 : Hid (Below X.heap.size X w8') := by show Below _ _ _; rw [hw8]; exact below_setCells HG5.out _ _ _ HY2.out
    have HP9 : Hid (PfAt w8' g5 ⟨(kd : Int), 256 * (e2 : Int) + (e3 : Int), ((b.drop 36).take 64), bm, []⟩ (.slice none 0 0)) := by show PfAt _ _ _ _; rw [← HLFE.out]; exact hPL
    clear hb2 hP52 hPL hw8
    go_wp2_with fail
    clear stl bl
    obtain ⟨rs, hrs⟩ : ∃ rs, rs = b.drop 100 := ⟨_, rfl⟩
    have HRSE := Lib.hid hrs
    have HP1O : Hid (Pf.Ok ⟨(kd : Int), 256 * (e2 : Int) + (e3 : Int), ((b.drop 36).take 64), bm, []⟩) := ⟨HLFL.out, HBML.out, fun s h => by simp at h⟩
    have HGV : Hid (g5 < w8'.heap.size) := HP9.out.lt
    clear hrs
    go_loopg [6] 258 (fun gg aa wr => ∃ (k : Nat) (As : Option Addr) (cs : Nat), aa = .int .i64 (100 + 32 * (k : Int)) ∧ 100 + 32 * k ≤ b.length ∧ k ≤ 257 ∧ 258 - k ≤ gg ∧ PfAt wr g5 ⟨(kd : Int), 256 * (e2 : Int) + (e3 : Int), ((b.drop 36).take 64), bm, []⟩ (.slice As (chunks rs k).length cs) ∧ OwnD wr w8'.heap.size (.slice As (chunks rs k).length cs) (chunks rs k) ∧ Keep (fun i => i = g5) w8' wr)
    case atStart => exact ⟨0, none, 0, rfl, by have := HRL0.out; omega, by omega, by omega, HP9.out, OwnD.nil _ _, Keep.refl _ _⟩
    case round =>
     obtain ⟨k, As, cs, rfl, hle, hk, hgg, hP, hO, hK⟩ := hrel
     have HBR : Hid (Below X.heap.size X wr) := HB9.out.trans (hK.below HB9.out.size fun i e => by have e : i = g5 := e; have := HG5.out; omega)
     have HVR : Hid (w8'.heap.size ≤ wr.heap.size) := hK.size
     have HKR := Lib.hid hK
     have HPR := Lib.hid hP
     have HO := Lib.hid hO
     have hb6 := HLE.out
     have ww : IntKind.i64.wrap ((100 + 32 * (k : Int)) + 32) = (100 + 32 * (k : Int)) + 32 := wrap17 (by omega) (by omega)
     have c98 := hP.sib HP1O.out
     have hcl : (chunks rs k).length = k := chunks_len rs k
     clear hK hP hO
     by_cases h1 : 100 + 32 * k + 32 ≤ b.length
     ·have d1 : decide ((100 + 32 * (k : Int)) + 32 ≤ (b.length : Int)) = true := decide_eq_true (by omega)
      by_cases h2 : k ≤ 256
      ·have d2 : decide (((chunks rs k).length : Int) ≤ 256) = true := decide_eq_true (by omega)
       obtain ⟨rt, hrt⟩ : ∃ rt, rt = partL b (100 + 32 * k) := ⟨_, rfl⟩
       have HRL : Hid (rt.length = 32) := by show _ = _; rw [hrt]; exact part_len h1
       have HCH : Hid (chunks rs (k + 1) = chunks rs k ++ [rt]) := by show _ = _; rw [hrt, HRSE.out]; exact chunks_part b 100 k
       have HMM : Hid (∀ s ∈ chunks rs k ++ [rt], s.length = 32) := fun s hs => by
        rw [← HCH.out] at hs
        exact chunks_each (by rw [HRSE.out, List.length_drop]; omega) s hs
       have HSL : Hid ((chunks rs k).length ≤ 1000000) := by show _ ≤ _; omega
       have HRC : Hid (∀ w, Below wr.heap.size wr w → Calls Tryz.prog 61 #[.slice (some ⟨g, o, none⟩) b.length c, .int .i64 (100 + 32 * (k : Int))] w fun e w' => e = .returned (.agg (bA rt)) ∧ Below w.heap.size w w') := fun w h => by
        have hp := part_c (some ⟨g, o, none⟩) c (100 + 32 * k) b w (HA.out.below (HB.out.trans ((HBR.out.trans (h.mono HBR.out.size)).mono HB.out.size))) h1 HLE.out
        rw [← hrt, show ((100 + 32 * k : Nat) : Int) = (100 + 32 * (k : Int)) by omega] at hp
        exact hp
       have LB : Hid (∀ q, Below w8'.heap.size wr q → q.cell? ⟨g5, 98, none⟩ = some (.slice As (chunks rs k).length cs)) := fun q h => (HPR.out.below h HGV.out).sib HP1O.out
       have bsx := bsD_one rt HRL.out
       clear hrt hcl
       go_wp2_with fail
       refine region_heldT 8 (fun q => Below w8'.heap.size wr q) (by kernel_rfl) ?_
       have hHeld : Below w8'.heap.size wr wr.drew := (Below.refl _ _).drew
       refine HeldT.take (i := 0) (oi := { dst := some 62, op := .fieldAddr _ (.tmp 5) 4, .. }) (v := ?_) rfl (by kernel_rfl) (by kernel_rfl) (by kernel_rfl) (by kernel_rfl) (fun _ _ _ h => h) (Or.inl ⟨by rfl, ?_⟩) (by assumption) ?_
       rotate_left 1
       ·intro v hSv
        clear hSv
        go_simp
        try with_reducible rfl
       try simp only [Act.put, x_A, x_0, x_1]
       refine HeldT.take (i := 1) (oi := { dst := some 63, op := .load _ (.tmp 62), .. }) (v := ?_) rfl (by kernel_rfl) (by kernel_rfl) (by kernel_rfl) (by kernel_rfl) (fun _ _ _ h => h) (Or.inl ⟨by rfl, ?_⟩) (by assumption) ?_
       rotate_left 1
       ·intro v hSv
        have hv1 := LB.out v hSv
        clear hSv
        go_simp
        try with_reducible rfl
       try simp only [Act.put, x_A, x_0, x_1]
       refine HeldT.take (i := 2) (oi := { dst := some 64, op := .move (.tmp 0), .. }) (v := ?_) rfl (by kernel_rfl) (by kernel_rfl) (by kernel_rfl) (by kernel_rfl) (fun _ _ _ h => h) (Or.inl ⟨by rfl, ?_⟩) (by assumption) ?_
       rotate_left 1
       ·intro v hSv
        clear hSv
        go_simp
        try with_reducible rfl
       try simp only [Act.put, x_A, x_0, x_1]
       refine HeldT.take (i := 3) (oi := { dst := some 65, op := .move (.tmp 6), .. }) (v := ?_) rfl (by kernel_rfl) (by kernel_rfl) (by kernel_rfl) (by kernel_rfl) (fun _ _ _ h => h) (Or.inl ⟨by rfl, ?_⟩) (by assumption) ?_
       rotate_left 1
       ·intro v hSv
        clear hSv
        go_simp
        try with_reducible rfl
       try simp only [Act.put, x_A, x_0, x_1]
       refine HeldT.one (i := 4) (o := { dst := some 66, op := .call _, .. }) (by kernel_rfl) rfl rfl (fun K hK => ?_)
       go_wp2_with fail
       refine (HRC.out _ ((Below.refl _ _).drew)).mono ?_
       rintro e y1 ⟨rfl, hb⟩
       have hq1 : Below wr.heap.size wr y1 := ((Below.refl _ _).drew).trans hb
       have HQ1 := Lib.hid hq1
       clear hb
       go_wp2_with fail
       refine hK.out _ _ (fun _ => hq1.mono HVR.out) (fun hS => ?_)
       have hHeld := hS (by decide)
       clear hS hK K
       try simp only [Act.put, x_A, x_0, x_1]
       clear hq1
       refine HeldT.one (i := 5) (o := { dst := some 67, op := .buildSlice _ _ _, .. }) (by kernel_rfl) rfl rfl (fun K hK => ?_)
       obtain ⟨Z, hZ⟩ : ∃ Z, Z = y1.alloc (.cells (bA rt) 47) := ⟨_, rfl⟩
       have hq2 : Below wr.heap.size wr Z := by rw [hZ]; exact HQ1.out.alloc HQ1.out.size _
       have HZR : Hid (Z.rangeAt y1.heap.size 0 (dC rt)) := by show World.rangeAt _ _ _ _; rw [hZ]; exact dig_made _ _ _
       have HQ2 := Lib.hid hq2
       have HZ := Lib.hid hZ
       clear hZ HQ1
       go_wp2_with fail
       rw [← HZ.out]
       refine hK.out _ _ (fun _ => hq2.mono HVR.out) (fun hS => ?_)
       have hHeld := hS (by decide)
       clear hS hK K
       try simp only [Act.put, x_A, x_0, x_1]
       clear hq2 HZ
       refine HeldT.one (i := 6) (o := { dst := some 68, op := .call _, .. }) (by kernel_rfl) rfl rfl (fun K hK => ?_)
       have HOZ := Lib.hid (HO.out.below HQ2.out)
       have hzs : w8'.heap.size ≤ Z.heap.size := Nat.le_trans HVR.out HQ2.out.size
       go_wp2_with (at_builtin; refine wpList_pushD rfl _ _ rfl w8'.heap.size (.slice As (chunks rs k).length cs) (chunks rs k) rfl HOZ.out y1.heap.size rt HRL.out rfl HZR.out HSL.out hzs ?_; intro v9 w9 hO9 hG9; obtain ⟨A9, c9, rfl, _, _⟩ := hO9.ds HMM.out)
       have HO9 := Lib.hid hO9
       have HS9 : Hid (Below w8'.heap.size wr w9) := (HQ2.out.mono HVR.out).trans ((Below.refl _ _).grown hG9.by_ hzs HOZ.out.ge)
       refine hK.out _ _ (fun _ => HS9.out) (fun hS => ?_)
       have hHeld := hS (by decide)
       clear hS hK K
       try simp only [Act.put, x_A, x_0, x_1]
       clear hO9 hG9 hzs HOZ HZR
       refine HeldT.take (i := 7) (oi := { dst := some 69, op := .fieldAddr _ (.tmp 5) 4, .. }) (v := ?_) rfl (by kernel_rfl) (by kernel_rfl) (by kernel_rfl) (by kernel_rfl) (fun _ _ _ h => h) (Or.inl ⟨by rfl, ?_⟩) (by assumption) ?_
       rotate_left 1
       ·intro v hSv
        clear hSv
        go_simp
        try with_reducible rfl
       try simp only [Act.put, x_A, x_0, x_1]
       refine HeldT.one (i := 8) (o := { dst := none, op := .store _ (.tmp 69) (.tmp 68), .. }) (by kernel_rfl) rfl rfl (fun K hK => ?_)
       have hP9 : PfAt w9 g5 ⟨(kd : Int), 256 * (e2 : Int) + (e3 : Int), ((b.drop 36).take 64), bm, []⟩ (.slice As (chunks rs k).length cs) := HPR.out.below HS9.out HGV.out
       have hcell := hP9.sib HP1O.out
       have hfree : w9.frozen? ⟨g5, 98, none⟩ = false := frozen_of_row w9 _ _ _ _ hP9
       obtain ⟨HPW, HOW, HKW⟩ := rp_end17 HGV.out HP1O.out HKR.out HS9.out HO9.out hP9
       clear hP9
       go_wp2_with fail
       refine hK.out _ _ (fun h => absurd rfl h) (fun _ => ?_)
       clear hK K
       refine HeldT.done (by kernel_rfl) ?_ _
       go_wp2
       go_roundg (258 - (k + 1))
       case measure => omega
       case rel =>
        have e9 : (chunks rs (k + 1)).length = (chunks rs k).length + 1 := by rw [chunks_len, chunks_len]
        rw [List.length_append, List.length_singleton] at HPW HOW HKW
        refine ⟨k + 1, A9, c9, by go_num, by omega, by omega, by omega, ?_, ?_, HKW.out⟩
        ·rw [e9]; exact HPW.out
        ·rw [e9, HCH.out]; exact HOW.out
      ·have d2 : decide (((chunks rs k).length : Int) ≤ 256) = false := decide_eq_false (by omega)
       clear hcl
       have HFIN := Lib.hid (dec_fin HB36.out H0.out HKD1.out (by rw [HRS.out]; exact hle) (by rw [HRS.out]; exact .inr (by omega)))
       have heq : 100 + 32 * k ≠ b.length := by omega
       have d4 : ¬ ((100 + 32 * (k : Int)) = (b.length : Int)) := by omega
       have ln := (HNX.out.below HBR.out HNX.out.lt).ld zPf_ok
       have hrv := HRX.out.below HBR.out HRX.out.lt
       have stz : stA 53 wr (.pointer (some ⟨W.heap.size, 0, none⟩)) (.agg (pfC zPf (.slice none 0 0))) = .ok .skip (wr.setRow W.heap.size (pfC zPf (.slice none 0 0))) := stA_row hrv (by rw [pfC_size zPf_ok]; exact infoPf) rfl (pfC_one _ _ _ _)
       have HROW : Hid (PfAt (wr.setRow W.heap.size (pfC zPf (.slice none 0 0))) W.heap.size zPf (.slice none 0 0)) := setRow_heap _ _ _ _ _ _ hrv
       have HBF : Hid (Below W.heap.size W (wr.setRow W.heap.size (pfC zPf (.slice none 0 0)))) := Bt.below_row (HB.out.trans (HBR.out.mono HB.out.size)) (Nat.le_refl _) _
       have HDE := Lib.hid (HFIN.out.1 (by rw [HRS.out]; exact heq))
       clear hrv HO HPR HKR
       go_wp2_with fail
       refine bodyPost_ret ?_ rfl ⟨none, 0, by rw [HDE.out, decQ_bad (by rw [HDE.out]; decide)], by rw [decQ_bad (by rw [HDE.out]; decide)]; exact DS.nil _ _, by rw [decQ_bad (by rw [HDE.out]; decide)]; exact Nat.le_refl _, HBF.out⟩
       exact results_row_tmp Tryz.results32 _ _ W.heap.size _ _ rfl rfl (run_loadVar_row (P := Tryz.prog) _ _ 53 53 (pfC zPf (.slice none 0 0)) (0, 0) _ HROW.out Tryz.underlying53 rfl (by rw [pfC_size zPf_ok]; exact infoPf))
     ·have d1 : decide ((100 + 32 * (k : Int)) + 32 ≤ (b.length : Int)) = false := decide_eq_false (by omega)
      clear hcl
      have HFIN := Lib.hid (dec_fin HB36.out H0.out HKD1.out (by rw [HRS.out]; exact hle) (by rw [HRS.out]; exact .inl h1))
      by_cases heq : 100 + 32 * k = b.length
      rotate_left 1
      ·have d4 : ¬ ((100 + 32 * (k : Int)) = (b.length : Int)) := by omega
       have ln := (HNX.out.below HBR.out HNX.out.lt).ld zPf_ok
       have hrv := HRX.out.below HBR.out HRX.out.lt
       have stz : stA 53 wr (.pointer (some ⟨W.heap.size, 0, none⟩)) (.agg (pfC zPf (.slice none 0 0))) = .ok .skip (wr.setRow W.heap.size (pfC zPf (.slice none 0 0))) := stA_row hrv (by rw [pfC_size zPf_ok]; exact infoPf) rfl (pfC_one _ _ _ _)
       have HROW : Hid (PfAt (wr.setRow W.heap.size (pfC zPf (.slice none 0 0))) W.heap.size zPf (.slice none 0 0)) := setRow_heap _ _ _ _ _ _ hrv
       have HBF : Hid (Below W.heap.size W (wr.setRow W.heap.size (pfC zPf (.slice none 0 0)))) := Bt.below_row (HB.out.trans (HBR.out.mono HB.out.size)) (Nat.le_refl _) _
       have HDE := Lib.hid (HFIN.out.1 (by rw [HRS.out]; exact heq))
       clear hrv HO HPR HKR
       go_wp2_with fail
       refine bodyPost_ret ?_ rfl ⟨none, 0, by rw [HDE.out, decQ_bad (by rw [HDE.out]; decide)], by rw [decQ_bad (by rw [HDE.out]; decide)]; exact DS.nil _ _, by rw [decQ_bad (by rw [HDE.out]; decide)]; exact Nat.le_refl _, HBF.out⟩
       exact results_row_tmp Tryz.results32 _ _ W.heap.size _ _ rfl rfl (run_loadVar_row (P := Tryz.prog) _ _ 53 53 (pfC zPf (.slice none 0 0)) (0, 0) _ HROW.out Tryz.underlying53 rfl (by rw [pfC_size zPf_ok]; exact infoPf))
      ·have d4 : ((100 + 32 * (k : Int)) = (b.length : Int)) := by omega
       have hRAW : rawP b = ⟨(kd : Int), 256 * (e2 : Int) + (e3 : Int), ((b.drop 36).take 64), bm, chunks rs k⟩ := by
        have h := (HFIN.out.2 (by rw [HRS.out]; exact heq)).1
        unfold rawP
        rw [h, HRS.out, ← HRSE.out, ← HKD.out, ← HE2.out, ← HE3.out]
        rw [if_pos HKZ.out]
        rw [HBM.out]; rfl
       have hok : Pf.Ok ⟨(kd : Int), 256 * (e2 : Int) + (e3 : Int), ((b.drop 36).take 64), bm, chunks rs k⟩ := by rw [← hRAW]; exact rawP_ok HB36.out (by rw [HRS.out]; omega)
       have HPK : Hid (PfAt wr g5 ⟨(kd : Int), 256 * (e2 : Int) + (e3 : Int), ((b.drop 36).take 64), bm, chunks rs k⟩ (.slice As (chunks rs k).length cs)) := HPR.out
       have lpk := HPK.out.ld hok
       have HCK := Lib.hid (rcheck_c ⟨(kd : Int), 256 * (e2 : Int) + (e3 : Int), ((b.drop 36).take 64), bm, chunks rs k⟩ hok As cs wr)
       obtain ⟨z, hz⟩ : ∃ z, z = chkP ⟨(kd : Int), 256 * (e2 : Int) + (e3 : Int), ((b.drop 36).take 64), bm, chunks rs k⟩ := ⟨_, rfl⟩
       rw [← hz] at HCK
       have HZE := Lib.hid hz
       have HRAW := Lib.hid hRAW
       have HOK := Lib.hid hok
       have HEQ := Lib.hid heq
       clear hz hRAW hok heq
       go_wp2_with fail
       refine HCK.out.mono ?_
       rintro _ wc ⟨rfl, hbc⟩
       have HBC : Hid (Below X.heap.size X wc) := HBR.out.trans (hbc.mono HBR.out.size)
       have HPC : Hid (PfAt wc g5 ⟨(kd : Int), 256 * (e2 : Int) + (e3 : Int), ((b.drop 36).take 64), bm, chunks rs k⟩ (.slice As (chunks rs k).length cs)) := HPK.out.below hbc HPK.out.lt
       have HOC := Lib.hid (HO.out.below hbc)
       by_cases hz0 : z = 0
       rotate_left 1
       ·have d5 : (z == 0) = false := by simpa using hz0
        clear hbc lpk
        have ln := (HNX.out.below HBC.out HNX.out.lt).ld zPf_ok
        have hrv := HRX.out.below HBC.out HRX.out.lt
        have stz : stA 53 wc (.pointer (some ⟨W.heap.size, 0, none⟩)) (.agg (pfC zPf (.slice none 0 0))) = .ok .skip (wc.setRow W.heap.size (pfC zPf (.slice none 0 0))) := stA_row hrv (by rw [pfC_size zPf_ok]; exact infoPf) rfl (pfC_one _ _ _ _)
        have HROW : Hid (PfAt (wc.setRow W.heap.size (pfC zPf (.slice none 0 0))) W.heap.size zPf (.slice none 0 0)) := setRow_heap _ _ _ _ _ _ hrv
        have HBF : Hid (Below W.heap.size W (wc.setRow W.heap.size (pfC zPf (.slice none 0 0)))) := Bt.below_row (HB.out.trans (HBC.out.mono HB.out.size)) (Nat.le_refl _) _
        have HDE := Lib.hid ((HFIN.out.2 (by rw [HRS.out]; exact HEQ.out)).2.1 (by rw [HRAW.out, ← HZE.out]; exact hz0))
        clear hrv HO HPR HKR
        go_wp2_with fail
        refine bodyPost_ret ?_ rfl ⟨none, 0, by rw [HDE.out, decQ_bad (by rw [HDE.out]; decide)], by rw [decQ_bad (by rw [HDE.out]; decide)]; exact DS.nil _ _, by rw [decQ_bad (by rw [HDE.out]; decide)]; exact Nat.le_refl _, HBF.out⟩
        exact results_row_tmp Tryz.results32 _ _ W.heap.size _ _ rfl rfl (run_loadVar_row (P := Tryz.prog) _ _ 53 53 (pfC zPf (.slice none 0 0)) (0, 0) _ HROW.out Tryz.underlying53 rfl (by rw [pfC_size zPf_ok]; exact infoPf))
       ·have lc := HPC.out.ld HOK.out
        have hrv := HRX.out.below HBC.out HRX.out.lt
        have stz : stA 53 wc (.pointer (some ⟨W.heap.size, 0, none⟩)) (.agg (pfC ⟨(kd : Int), 256 * (e2 : Int) + (e3 : Int), ((b.drop 36).take 64), bm, chunks rs k⟩ (.slice As (chunks rs k).length cs))) = .ok .skip (wc.setRow W.heap.size (pfC ⟨(kd : Int), 256 * (e2 : Int) + (e3 : Int), ((b.drop 36).take 64), bm, chunks rs k⟩ (.slice As (chunks rs k).length cs))) := stA_row hrv (by rw [pfC_size HOK.out]; exact infoPf) (by rw [pfC_size HOK.out, pfC_size zPf_ok]) (pfC_one _ _ _ _)
        have HROW : Hid (PfAt (wc.setRow W.heap.size (pfC ⟨(kd : Int), 256 * (e2 : Int) + (e3 : Int), ((b.drop 36).take 64), bm, chunks rs k⟩ (.slice As (chunks rs k).length cs))) W.heap.size ⟨(kd : Int), 256 * (e2 : Int) + (e3 : Int), ((b.drop 36).take 64), bm, chunks rs k⟩ (.slice As (chunks rs k).length cs)) := setRow_heap _ _ _ _ _ _ hrv
        have HBF : Hid (Below W.heap.size W (wc.setRow W.heap.size (pfC ⟨(kd : Int), 256 * (e2 : Int) + (e3 : Int), ((b.drop 36).take 64), bm, chunks rs k⟩ (.slice As (chunks rs k).length cs)))) := Bt.below_row (HB.out.trans (HBC.out.mono HB.out.size)) (Nat.le_refl _) _
        have HDE : Hid (decE b = 0) := (HFIN.out.2 (by rw [HRS.out]; exact HEQ.out)).2.2 (by rw [HRAW.out, ← HZE.out]; exact hz0)
        have HDQ : Hid (decQ b = ⟨(kd : Int), 256 * (e2 : Int) + (e3 : Int), ((b.drop 36).take 64), bm, chunks rs k⟩) := (decQ_raw HDE.out).trans HRAW.out
        have HWX : Hid (W.heap.size < X.heap.size ∧ X.heap.size ≤ w8'.heap.size) := ⟨HRX.out.lt, HB9.out.size⟩
        have HDS : Hid (DS (wc.setRow W.heap.size (pfC ⟨(kd : Int), 256 * (e2 : Int) + (e3 : Int), ((b.drop 36).take 64), bm, chunks rs k⟩ (.slice As (chunks rs k).length cs))) As (chunks rs k)) := by
         have h1 : OwnD (wc.setRow W.heap.size (pfC ⟨(kd : Int), 256 * (e2 : Int) + (e3 : Int), ((b.drop 36).take 64), bm, chunks rs k⟩ (.slice As (chunks rs k).length cs))) w8'.heap.size (.slice As (chunks rs k).length cs) (chunks rs k) := row11_other HOC.out fun q cs' hg hh => by
          have hge := HOC.out.ge q hg
          rw [setRow_other _ _ _ _ (by have := HWX.out; omega)]
          exact hh
         exact h1.dsA HOK.out.sib
        have HCC : Hid ((chunks rs k).length ≤ cs) := by
         obtain ⟨A8, c8, e8, _, h8⟩ := HOC.out.ds HOK.out.sib
         cases e8
         exact h8
        subst hz0
        clear hrv hbc lpk
        go_wp2_with fail
        refine bodyPost_ret ?_ rfl ⟨As, cs, by rw [HDE.out, HDQ.out], by rw [HDQ.out]; exact HDS.out, by rw [HDQ.out]; exact HCC.out, HBF.out⟩
        exact results_row_tmp Tryz.results32 _ _ W.heap.size _ _ rfl rfl (run_loadVar_row (P := Tryz.prog) _ _ 53 53 (pfC ⟨(kd : Int), 256 * (e2 : Int) + (e3 : Int), ((b.drop 36).take 64), bm, chunks rs k⟩ (.slice As (chunks rs k).length cs)) (0, 0) _ HROW.out Tryz.underlying53 rfl (by rw [pfC_size HOK.out]; exact infoPf))
 clear hK0
 refine wp_region_held_drew (S := fun w' => Below X.heap.size X w') (by kernel_rfl) ((Below.refl _ _).drew) (fun hHeld => ?_)
 have hb0 : Below X.heap.size X X.drew := (Below.refl _ _).drew
 refine x_t (i := 0) (oi := { dst := some 21, op := .move (.tmp 0), .. }) (v := ?_) rfl (Or.inl ⟨by rfl, ?_⟩) ?_
 rotate_left 1
 ·intro v hSv
  clear hSv
  go_simp
  try with_reducible rfl
 try simp only [Act.put, x_A, x_0, x_1]
 refine x_t (i := 1) (oi := { dst := some 22, op := .indexAddr _ (.tmp 21) (.const (.int .i64 1)), .. }) (v := ?_) rfl (Or.inl ⟨by rfl, ?_⟩) ?_
 rotate_left 1
 ·intro v hSv
  clear hSv
  go_simp
  try with_reducible rfl
 try simp only [Act.put, x_A, x_0, x_1]
 refine x_t (i := 2) (oi := { dst := some 23, op := .load _ (.tmp 22), .. }) (v := ?_) rfl (Or.inl ⟨by rfl, ?_⟩) ?_
 rotate_left 1
 ·intro v hSv
  have hv1 := L1.out v hSv
  clear hSv
  go_simp
  try with_reducible rfl
 try simp only [Act.put, x_A, x_0, x_1]
 refine x_t (i := 3) (oi := { dst := some 24, op := .convert _ _ (.tmp 23), .. }) (v := ?_) rfl (Or.inl ⟨by rfl, ?_⟩) ?_
 rotate_left 1
 ·intro v hSv
  clear hSv
  go_simp
  try with_reducible rfl
 try simp only [Act.put, x_A, x_0, x_1]
 refine x_t (i := 4) (oi := { dst := some 25, op := .move (.tmp 0), .. }) (v := ?_) rfl (Or.inl ⟨by rfl, ?_⟩) ?_
 rotate_left 1
 ·intro v hSv
  clear hSv
  go_simp
  try with_reducible rfl
 try simp only [Act.put, x_A, x_0, x_1]
 refine x_t (i := 5) (oi := { dst := some 26, op := .indexAddr _ (.tmp 25) (.const (.int .i64 2)), .. }) (v := ?_) rfl (Or.inl ⟨by rfl, ?_⟩) ?_
 rotate_left 1
 ·intro v hSv
  clear hSv
  go_simp
  try with_reducible rfl
 try simp only [Act.put, x_A, x_0, x_1]
 refine x_t (i := 6) (oi := { dst := some 27, op := .load _ (.tmp 26), .. }) (v := ?_) rfl (Or.inl ⟨by rfl, ?_⟩) ?_
 rotate_left 1
 ·intro v hSv
  have hv1 := L2.out v hSv
  clear hSv
  go_simp
  try with_reducible rfl
 try simp only [Act.put, x_A, x_0, x_1]
 refine x_t (i := 7) (oi := { dst := some 28, op := .convert _ _ (.tmp 27), .. }) (v := ?_) rfl (Or.inl ⟨by rfl, ?_⟩) ?_
 rotate_left 1
 ·intro v hSv
  clear hSv
  go_simp
  try with_reducible rfl
 try simp only [Act.put, x_A, x_0, x_1]
 refine x_t (i := 8) (oi := { dst := some 29, op := .binOp .mul _ (.const (.int .i64 256)) (.tmp 28) _, .. }) (v := ?_) rfl (Or.inl ⟨by rfl, ?_⟩) ?_
 rotate_left 1
 ·intro v hSv
  clear hSv
  go_simp
  try with_reducible rfl
 try simp only [Act.put, x_A, x_0, x_1]
 refine x_t (i := 9) (oi := { dst := some 30, op := .move (.tmp 0), .. }) (v := ?_) rfl (Or.inl ⟨by rfl, ?_⟩) ?_
 rotate_left 1
 ·intro v hSv
  clear hSv
  go_simp
  try with_reducible rfl
 try simp only [Act.put, x_A, x_0, x_1]
 refine x_t (i := 10) (oi := { dst := some 31, op := .indexAddr _ (.tmp 30) (.const (.int .i64 3)), .. }) (v := ?_) rfl (Or.inl ⟨by rfl, ?_⟩) ?_
 rotate_left 1
 ·intro v hSv
  clear hSv
  go_simp
  try with_reducible rfl
 try simp only [Act.put, x_A, x_0, x_1]
 refine x_t (i := 11) (oi := { dst := some 32, op := .load _ (.tmp 31), .. }) (v := ?_) rfl (Or.inl ⟨by rfl, ?_⟩) ?_
 rotate_left 1
 ·intro v hSv
  have hv1 := L3.out v hSv
  clear hSv
  go_simp
  try with_reducible rfl
 try simp only [Act.put, x_A, x_0, x_1]
 refine x_t (i := 12) (oi := { dst := some 33, op := .convert _ _ (.tmp 32), .. }) (v := ?_) rfl (Or.inl ⟨by rfl, ?_⟩) ?_
 rotate_left 1
 ·intro v hSv
  clear hSv
  go_simp
  try with_reducible rfl
 try simp only [Act.put, x_A, x_0, x_1]
 refine x_t (i := 13) (oi := { dst := some 34, op := .binOp .add _ (.tmp 29) (.tmp 33) _, .. }) (v := ?_) rfl (Or.inl ⟨by rfl, ?_⟩) ?_
 rotate_left 1
 ·intro v hSv
  clear hSv
  go_simp
  try with_reducible rfl
 try simp only [Act.put, x_A, x_0, x_1]
 refine x_t (i := 14) (oi := { dst := some 35, op := .move (.tmp 0), .. }) (v := ?_) rfl (Or.inl ⟨by rfl, ?_⟩) ?_
 rotate_left 1
 ·intro v hSv
  clear hSv
  go_simp
  try with_reducible rfl
 try simp only [Act.put, x_A, x_0, x_1]
 refine wpAnyH_ready (rs := [15, 17]) (by kernel_rfl) (by simp) ?_
 refine AllReadyH.cons (o := { dst := some 36, op := .call _, .. }) rfl (fun K hK => ?_) (AllReadyH.cons (o := { dst := some 5, op := .alloc _, .. }) rfl (fun K hK => ?_) (AllReadyH.nil))
 ·skip
  go_simp
  refine (HPT.out _ (hb0)).mono ?_
  rintro e y1 ⟨rfl, hb⟩
  have hb1 : Below X.heap.size X y1 := keeps (hb0) hb
  have HCB := Lib.hid hb
  clear hb
  go_wp2_with fail
  refine hK.out _ _ (hb1) (fun hHeld => ?_)
  clear hK K
  try simp only [Act.put, x_A, x_0, x_1]
  refine x_t (i := 16) (oi := { dst := some 37, op := .build _ #[(0, .tmp 24), (1, .tmp 34), (3, .tmp 36)], .. }) (v := ?_) rfl (Or.inl ⟨by rfl, ?_⟩) ?_
  rotate_left 1
  ·intro v hSv
   clear hSv
   go_simp
   try with_reducible rfl
  try simp only [Act.put, x_A, x_0, x_1]
  refine wpAnyH_ready (rs := [17]) (by kernel_rfl) (by simp) ?_
  refine AllReadyH.cons (o := { dst := some 5, op := .alloc _, .. }) rfl (fun K hK => ?_) AllReadyH.nil
  go_simp
  refine hK.out _ _ ((hb1).alloc (hb1).size _) (fun hHeld => ?_)
  clear hK K
  try simp only [Act.put, x_A, x_0, x_1]
  refine wpAnyH_ready (rs := [18]) (by kernel_rfl) (by simp) ?_
  refine AllReadyH.cons (o := { dst := none, op := .store _ (.tmp 5) (.tmp 37), .. }) rfl (fun K hK => ?_) AllReadyH.nil
  have st8 := stPf_new y1 (p := ⟨(kd : Int), 256 * (e2 : Int) + (e3 : Int), z64, bm, []⟩) (z := zPf) ⟨by show (z64).length = 64; rfl, HBML.out, fun s h => by simp at h⟩ zPf_ok none 0 0 (.slice none 0 0)
  have HPE : Hid (PfAt (y1.alloc (.cells (pfC ⟨(kd : Int), 256 * (e2 : Int) + (e3 : Int), z64, bm, []⟩ (.slice none 0 0)) 53)) y1.heap.size ⟨(kd : Int), 256 * (e2 : Int) + (e3 : Int), z64, bm, []⟩ (.slice none 0 0)) := PfAt.one _ _ _
  have HGE : Hid (X.heap.size ≤ y1.heap.size) := hb1.size
  go_simp
  refine hK.out _ _ (hb1.alloc hb1.size _) (fun hHeld => ?_)
  clear hK K
  try simp only [Act.put, x_A, x_0, x_1]
  refine wpAnyH_done (by kernel_rfl) ?_ _
  exact HREST.out _ _ (hb1.alloc hb1.size _) HGE.out HPE.out
 ·skip
  go_simp
  refine hK.out _ _ ((hb0).alloc (hb0).size _) (fun hHeld => ?_)
  clear hK K
  try simp only [Act.put, x_A, x_0, x_1]
  refine wpAnyH_ready (rs := [15]) (by kernel_rfl) (by simp) ?_
  refine AllReadyH.cons (o := { dst := some 36, op := .call _, .. }) rfl (fun K hK => ?_) AllReadyH.nil
  go_simp
  refine (HPT.out _ ((hb0).alloc (hb0).size _)).mono ?_
  rintro e y2 ⟨rfl, hb⟩
  have hb2 : Below X.heap.size X y2 := keeps ((hb0).alloc (hb0).size _) hb
  have HCB := Lib.hid hb
  clear hb
  go_wp2_with fail
  refine hK.out _ _ (hb2) (fun hHeld => ?_)
  clear hK K
  try simp only [Act.put, x_A, x_0, x_1]
  refine x_t (i := 16) (oi := { dst := some 37, op := .build _ #[(0, .tmp 24), (1, .tmp 34), (3, .tmp 36)], .. }) (v := ?_) rfl (Or.inl ⟨by rfl, ?_⟩) ?_
  rotate_left 1
  ·intro v hSv
   clear hSv
   go_simp
   try with_reducible rfl
  try simp only [Act.put, x_A, x_0, x_1]
  refine wpAnyH_ready (rs := [18]) (by kernel_rfl) (by simp) ?_
  refine AllReadyH.cons (o := { dst := none, op := .store _ (.tmp 5) (.tmp 37), .. }) rfl (fun K hK => ?_) AllReadyH.nil
  have hp8 : PfAt y2 X.heap.size zPf (.slice none 0 0) := by show y2.heap[X.heap.size]? = _; rw [HCB.out.block X.heap.size (by rw [World.size_alloc]; exact Nat.lt_succ_self _)]; exact PfAt.one X.drew zPf _
  have st8 : stA 53 y2 (.pointer (some ⟨X.heap.size, 0, none⟩)) (.agg (pfC ⟨(kd : Int), 256 * (e2 : Int) + (e3 : Int), z64, bm, []⟩ (.slice none 0 0))) = .ok .skip (y2.setRow X.heap.size (pfC ⟨(kd : Int), 256 * (e2 : Int) + (e3 : Int), z64, bm, []⟩ (.slice none 0 0))) := stA_row hp8 (by rw [pfC_size (p := ⟨(kd : Int), 256 * (e2 : Int) + (e3 : Int), z64, bm, []⟩) ⟨by show (z64).length = 64; rfl, HBML.out, fun s h => by simp at h⟩]; exact infoPf) (by rw [pfC_size zPf_ok, pfC_size (p := ⟨(kd : Int), 256 * (e2 : Int) + (e3 : Int), z64, bm, []⟩) ⟨by show (z64).length = 64; rfl, HBML.out, fun s h => by simp at h⟩]) (pfC_one _ _ _ _)
  have HPE : Hid (PfAt (y2.setRow X.heap.size (pfC ⟨(kd : Int), 256 * (e2 : Int) + (e3 : Int), z64, bm, []⟩ (.slice none 0 0))) X.heap.size ⟨(kd : Int), 256 * (e2 : Int) + (e3 : Int), z64, bm, []⟩ (.slice none 0 0)) := setRow_heap _ _ _ _ _ _ hp8
  have HGE : Hid (X.heap.size ≤ X.heap.size) := Nat.le_refl _
  clear hp8
  go_simp
  refine hK.out _ _ (Bt.below_row hb2 (Nat.le_refl _) _) (fun hHeld => ?_)
  clear hK K
  try simp only [Act.put, x_A, x_0, x_1]
  refine wpAnyH_done (by kernel_rfl) ?_ _
  exact HREST.out _ _ (Bt.below_row hb2 (Nat.le_refl _) _) HGE.out HPE.out
end Go.Proofs.YtjgdindjimbfeaaGreatDoor
