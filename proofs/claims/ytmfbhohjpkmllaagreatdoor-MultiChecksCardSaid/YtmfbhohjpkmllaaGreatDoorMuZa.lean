import Derived.Test.YtmfbhohjpkmllaaGreatDoorIQ
import Derived.Test.YtmfbhohjpkmllaaGreatDoorIF
import Derived.Test.YtmfbhohjpkmllaaGreatDoorMM
import Derived.Test.YtmfbhohjpkmllaaGreatDoorIA
import Derived.Test.YtmfbhohjpkmllaaGreatDoorMT
import Derived.BigQuiet
namespace Go.Proofs.YtmfbhohjpkmllaaGreatDoor
set_option linter.unusedSimpArgs false
set_option linter.unusedVariables false
set_option maxHeartbeats 16000000
set_option maxRecDepth 100000
open Go.RowKit
theorem bsK_79 (w : World) : bsS w 2 #[(0, .agg (bA k7)), (1, .agg (bA k9))] = .ok (.value (.slice (some ⟨w.heap.size, 0, none⟩) 2 2)) (w.alloc (.cells (bA (k7 ++ k9)) 39)) := by kernel_rfl
theorem bsK_0F (w : World) : bsS w 2 #[(0, .agg (bA z26)), (1, .agg (bA k255))] = .ok (.value (.slice (some ⟨w.heap.size, 0, none⟩) 2 2)) (w.alloc (.cells (bA (z26 ++ k255)) 39)) := by kernel_rfl
theorem ks_two {w : World} {g : Nat} {t : TypeId} {fr : Nat × Nat} {a b : List UInt8} (h : w.heap[g]? = some (.cells (bA (a ++ b)) t fr)) (ha : a.length = 32) (hb : b.length = 32) : KS w (some ⟨g, 0, none⟩) [a, b] := fun i k hi => by
 have at_ : ∀ (j : Nat) (v : Value), ((a ++ b).map bv)[j]? = some v → w.cell? ⟨g, j, none⟩ = some v := fun j v hv => by
  rw [cell_of_cells h]
  unfold bA
  rw [List.getElem?_toArray]
  exact hv
 match i, hi with
 | 0, hi =>
  obtain rfl := Option.some.inj hi
  refine ⟨ha, g, 0, rfl, fun j v hv => ?_⟩
  have hj : j < 32 := by have := (List.getElem?_eq_some_iff.1 hv).1; rw [List.length_map, ha] at this; exact this
  have := at_ j v (by rw [List.map_append, List.getElem?_append_left (by rw [List.length_map, ha]; exact hj)]; exact hv)
  simpa using this
 | 1, hi =>
  obtain rfl := Option.some.inj hi
  refine ⟨hb, g, 0, rfl, fun j v hv => ?_⟩
  have := at_ (32 + j) v (by rw [List.map_append, List.getElem?_append_right (by rw [List.length_map, ha]; omega), List.length_map, ha, Nat.add_sub_cancel_left]; exact hv)
  simpa using this
 | i + 2, hi => simp at hi
theorem ea_one19 {w : World} {A : Option Addr} (h : EA w A [e0, eF]) : EA w A [e0] := fun i e hi => by
 match i, hi with
 | 0, hi => exact h 0 e hi
 | i + 1, hi => simp at hi
theorem EdA.hs19 {w w' : World} {b : Nat} {n : Int} {c : Nat} {A : Option Addr} {es : List (It × Nat)} (h : EdA w A es) (hh : Hs w b n c) (k : Keep (fun i => i = b) w w') : EdA w' A es := fun i e hi => by
 obtain ⟨h1, g, o, rfl, h3, h4⟩ := h i e hi
 have hg : ¬ g = b := fun e2 => by
  subst e2
  rw [cell_of_cells hh] at h4
  obtain ⟨q, hq⟩ : ∃ q, q = o + i * 98 + 95 := ⟨_, rfl⟩
  rw [show o + i * 98 + 97 = q + 2 by omega] at h4
  simp at h4
 exact ⟨h1, g, o, rfl, fun j v hv => k.cellAt (h3 j v hv) hg, k.cellAt h4 hg⟩
theorem elemE19 : Tryz.prog.elem 22 = 80 := by kernel_rfl
theorem slE19 : Tryz.prog.underlying 22 = some (.slice (Tryz.prog.elem 22)) := by rw [elemE19]; exact Tryz.underlying22
theorem sizeE19 (w : World) : (sizeOf 80).run Tryz.prog w = .ok 33 w := by
 obtain ⟨i, hi, hs⟩ := Option.map_eq_some_iff.1 (show (Tryz.prog.info? 80).map (·.size) = some 33 by kernel_rfl)
 simp [sizeOf, typeInfo, hi, hs]
theorem cut_one19 (g len c : Nat) (h : 1 ≤ c) (w : World) :
  (Instr.sliceAt 22 (.slice (some ⟨g, 0, none⟩) len c) none (some (.int .i64 1)) none).run Tryz.prog w = .ok (.slice (some ⟨g, 0, none⟩) 1 c) w := by
 rw [run_sliceAt_slice w 22 _ _ _ _ slE19, run_slice_h w 22 _ len c slE19 .i64 1 (by omega) (by omega), elemE19, sizeE19]
 simp [sliced, add_none]
theorem elemI19 : Tryz.prog.elem 30 = 59 := by kernel_rfl
theorem slI19 : Tryz.prog.underlying 30 = some (.slice (Tryz.prog.elem 30)) := by rw [elemI19]; exact Tryz.underlying30
theorem sizeI19 (w : World) : (sizeOf 59).run Tryz.prog w = .ok 97 w := by
 obtain ⟨i, hi, hs⟩ := Option.map_eq_some_iff.1 infoIt
 simp [sizeOf, typeInfo, hi, hs]
theorem cut_two19 (g o len c : Nat) (h : 2 ≤ c) (w : World) :
  (Instr.sliceAt 30 (.slice (some ⟨g, o, none⟩) len c) none (some (.int .i64 2)) none).run Tryz.prog w = .ok (.slice (some ⟨g, o, none⟩) 2 c) w := by
 rw [run_sliceAt_slice w 30 _ _ _ _ slI19, run_slice_h w 30 _ len c slI19 .i64 2 (by omega) (by omega), elemI19, sizeI19]
 simp [sliced, add_none]
theorem alive19_c {M : World → Int → Tv → Prop} (nd : NdV M) (pv : PtV M) (mu : MuV M) : Alive19 := fun w hvx => by
 have HVX := Lib.hid hvx
 have HH := Lib.hid (hash_in 256 w (by decide) (by decide))
 clear hvx
 have b3 := bldEntry_z
 have b4 := bldEntry_ff
 have b2 := bldKey_255
 have b5 := bsE_ff
 go_enter Tryz.func11, Tryz.ntmps11
 go_wp2_with fail
 refine HH.out.mono ?_
 rintro _ w1 ⟨b, rfl, hbn, hH, hB⟩
 have HB1 := Lib.hid hB
 have HN1 := Lib.hid hbn
 have HH1 := Lib.hid hH
 have HV1 := Lib.hid (HVX.out.below hB)
 have cu := cut_one19 w1.heap.size 2 2 (by decide)
 obtain ⟨Y, hY⟩ : ∃ Y, Y = w1.alloc (.cells (enC e0 ++ enC eF).toArray 80) := ⟨_, rfl⟩
 have hbY : Below w1.heap.size w1 Y := by rw [hY]; exact Bt.one_below _ _
 have HEY : Hid (EA Y (some ⟨w1.heap.size, 0, none⟩) [e0, eF]) := by
  have h := ea_ff (w := w1)
  show EA _ _ _
  rw [hY]
  exact h
 have HBY := Lib.hid (keeps HB1.out hbY)
 have HHY := Lib.hid (HH1.out.keep (Keep.of_below (L := fun _ => False) hbY) id)
 have HVY := Lib.hid (HV1.out.below hbY)
 have HYE := Lib.hid hY
 have HS : Hid (∀ e ∈ [e0, eF], e.v.length ≤ 1000) := fun e he => by
  simp only [List.mem_cons, List.not_mem_nil, or_false] at he
  rcases he with rfl | rfl <;> exact Nat.zero_le _
 have HAL := Lib.hid (pv.all Y b 256 0 [] .nil (some ⟨w1.heap.size, 0, none⟩) 2 [e0] HHY.out (by decide) HVY.out (nd.nil _ _) map_none (Nat.zero_le _) (ea_one19 HEY.out) (by decide) (fun e he => by rw [List.mem_singleton.1 he]; exact Nat.zero_le _))
 have hbw : b < w1.heap.size := lt_of_heap HH1.out
 have HBW := Lib.hid hbw
 clear hbn hH hB HH HVX hY hbY HB1 HH1 HV1 hbw
 have b6 := bldKey_7
 have b7 := bldKey_9
 have b8 := bldKey_z19
 go_wp2_with fail
 rw [← HYE.out]
 refine HAL.out.mono ?_
 rintro _ w2 ⟨T1, rfl, hI1, hMd⟩
 have hI1 : IsMap [E0] T1 := hI1
 obtain ⟨m2, hm2, hH2⟩ := hMd.hs
 have hm2 : m2 ≤ 1000 := by simpa using hm2
 obtain ⟨X2, hX2⟩ : ∃ X, X = w2.alloc (.cells (bA (k7 ++ k9)) 39) := ⟨_, rfl⟩
 have hbX : Below w2.heap.size w2 X2 := by rw [hX2]; exact Bt.one_below _ _
 have hKX : KS X2 (some ⟨w2.heap.size, 0, none⟩) [k7, k9] := ks_two (by rw [hX2]; exact heap_alloc_new _ _) rfl rfl
 have bk := bsK_79 w2
 rw [← hX2] at bk
 have HB2 := Lib.hid (keeps (keep_new HBY.out HN1.out hMd.keep) hbX)
 have HH2 := Lib.hid (hH2.keep (Keep.of_below (L := fun _ => False) hbX) id)
 have HV2 := Lib.hid ((HVY.out.hs HHY.out hMd.keep).below hbX)
 have HE2 := Lib.hid ((HEY.out.hs19 HHY.out hMd.keep).below hbX)
 have HPV := mu.prove X2 b 256 m2 [E0] T1 [k7, k9] (some ⟨w2.heap.size, 0, none⟩) 2 HH2.out (by omega) HV2.out (nd.below hMd.ms hbX) hI1 (by decide) hKX (by decide) (by decide) keys_79
 rw [prv_one19] at HPV
 have HPV := Lib.hid HPV
 have HM2 := Lib.hid hm2
 clear hI1 hMd hm2 hH2 hX2 hbX hKX HAL HBY HHY HVY HEY
 go_wp2_with fail
 refine HPV.out.mono ?_
 rintro _ w3 ⟨A3, c3, m3, rfl, hI3, hc3, hm3, hH3, hk3⟩
 have HB3 := Lib.hid (keep_new HB2.out HN1.out hk3)
 have HH3 := Lib.hid hH3
 have HV3 := Lib.hid (HV2.out.hs HH2.out hk3)
 have HE3 := Lib.hid (HE2.out.hs19 HH2.out hk3)
 have HI3 := Lib.hid hI3
 have HM3 : Hid (m3 ≤ 2000) := by have := HM2.out; show _ ≤ _; omega
 rw [show one19.length = 1 from rfl]
 have HAL := Lib.hid (pv.all w3 b 256 m3 [] .nil (some ⟨w1.heap.size, 0, none⟩) 2 [e0, eF] hH3 (by have := HM3.out; omega) HV3.out (nd.nil _ _) map_none (Nat.zero_le _) HE3.out (by decide) HS.out)
 clear hI3 hc3 hm3 hH3 hk3 HPV HB2 HH2 HV2 HE2 bk
 go_wp2_with fail
 refine HAL.out.mono ?_
 rintro _ w4 ⟨T2, rfl, hI2, hMd⟩
 rw [put_ff] at hI2
 obtain ⟨m4, hm4, hH4⟩ := hMd.hs
 have hm4 : m4 ≤ 4000 := by have := HM3.out; have h2 : [e0, eF].length = 2 := rfl; rw [h2] at hm4; omega
 obtain ⟨X4, hX4⟩ : ∃ X, X = w4.alloc (.cells (bA (z26 ++ k255)) 39) := ⟨_, rfl⟩
 have hbX : Below w4.heap.size w4 X4 := by rw [hX4]; exact Bt.one_below _ _
 have hKX : KS X4 (some ⟨w4.heap.size, 0, none⟩) [z26, k255] := ks_two (by rw [hX4]; exact heap_alloc_new _ _) rfl rfl
 have bk := bsK_0F w4
 rw [← hX4] at bk
 have HB4 := Lib.hid (keeps (keep_new HB3.out HN1.out hMd.keep) hbX)
 have HH4 := Lib.hid (hH4.keep (Keep.of_below (L := fun _ => False) hbX) id)
 have HV4 := Lib.hid ((HV3.out.hs HH3.out hMd.keep).below hbX)
 have HE4 := Lib.hid ((HE3.out.hs19 HH3.out hMd.keep).below hbX)
 have HI4 := Lib.hid ((HI3.out.hs HH3.out hMd.keep).below hbX)
 have HMI := Lib.hid hI2
 have HPV := mu.prove X4 b 256 m4 [E0, EF] T2 [z26, k255] (some ⟨w4.heap.size, 0, none⟩) 2 HH4.out (by omega) HV4.out (nd.below hMd.ms hbX) hI2 (by decide) hKX (by decide) (by decide) keys_0F
 rw [prv_two19, tt_flat] at HPV
 have HPV := Lib.hid HPV
 have HM4 := Lib.hid hm4
 clear hI2 hMd hm4 hH4 hX4 hbX hKX HAL HB3 HH3 HV3 HE3 HI3
 go_wp2_with fail
 refine HPV.out.mono ?_
 rintro _ w5 ⟨A5, c5, m5, rfl, hI5, hc5, hm5, hH5, hk5⟩
 have HB5 := Lib.hid (keep_new HB4.out HN1.out hk5)
 have HH5 := Lib.hid hH5
 have HV5 := Lib.hid (HV4.out.hs HH4.out hk5)
 have HE5 := Lib.hid (HE4.out.hs19 HH4.out hk5)
 have HI5 := Lib.hid (HI4.out.hs HH4.out hk5)
 have HT5 := Lib.hid hI5
 have HC5 : Hid (3 ≤ c5) := hc5
 have HM5 : Hid (m5 ≤ 5000) := by have := HM4.out; show _ ≤ _; omega
 rw [show two19.length = 3 from rfl]
 have HPB : Hid (Calls Tryz.prog 12 #[ptr b, .pointer none, .slice none 0 0] w5 fun e w' => ∃ A' c' m', e = .returned (.tuple #[.slice A' 0 c', .int .i64 10]) ∧ m' ≤ m5 + 1000 ∧ Hs w' b 256 m' ∧ Keep (fun i => i = b) w5 w') :=
  mu.proveBad w5 b 256 m5 [] .nil [] none 0 hH5 (by have := HM5.out; omega) HV5.out (nd.nil _ _) map_none (fun i k hi => by simp at hi) (Nat.le_refl _) (by decide) (by rw [keys_nil19]; decide)
 unfold ptr at HPB
 clear hI5 hc5 hm5 hH5 hk5 HPV HB4 HH4 HV4 HE4 HI4 bk
 go_wp2_with fail
 refine HPB.out.mono ?_
 rintro _ w6 ⟨A6, c6, m6, rfl, hm6, hH6, hk6⟩
 obtain ⟨X6, hX6⟩ : ∃ X, X = w6.alloc (.cells (bA (z26 ++ k255)) 39) := ⟨_, rfl⟩
 have hbX : Below w6.heap.size w6 X6 := by rw [hX6]; exact Bt.one_below _ _
 have hKX : KS X6 (some ⟨w6.heap.size, 0, none⟩) [z26, k255] := ks_two (by rw [hX6]; exact heap_alloc_new _ _) rfl rfl
 have bk := bsK_0F w6
 rw [← hX6] at bk
 have HB6 := Lib.hid (keeps (keep_new HB5.out HN1.out hk6) hbX)
 have HH6 := Lib.hid (hH6.keep (Keep.of_below (L := fun _ => False) hbX) id)
 have HV6 := Lib.hid ((HV5.out.hs HH5.out hk6).below hbX)
 have HE6 := Lib.hid ((HE5.out.hs19 HH5.out hk6).below hbX)
 have HI6 := Lib.hid ((HI5.out.hs HH5.out hk6).below hbX)
 have HT6 := Lib.hid ((HT5.out.hs HH5.out hk6).below hbX)
 have HM6 : Hid (m6 ≤ 6000) := by have := HM5.out; show _ ≤ _; omega
 have HEN := mu.ends X6 tt19 [z26, k255] A5 (some ⟨w6.heap.size, 0, none⟩) c5 2 tt_good HT6.out HC5.out (by decide) hKX (by decide) (by decide) keys_0F fit_19
 rw [ends_19] at HEN
 have HEN := Lib.hid HEN
 clear hm6 hH6 hk6 hX6 hbX hKX HPB HB5 HH5 HV5 HE5 HI5 HT5
 go_wp2_with fail
 refine HEN.out.mono ?_
 rintro _ w7 ⟨A7, c7, rfl, hE7, hc7, hb7⟩
 have HB7 := Lib.hid (keeps HB6.out hb7)
 have HH7 := Lib.hid (HH6.out.keep (Keep.of_below (L := fun _ => False) hb7) id)
 have HV7 := Lib.hid (HV6.out.below hb7)
 have HE7 := Lib.hid (HE6.out.below hb7)
 have HI7 := Lib.hid (HI6.out.below hb7)
 have HT7 := Lib.hid (HT6.out.below hb7)
 have HD7 := Lib.hid hE7
 have HRO := mu.root w7 b 256 m6 tt19 A5 c5 HH7.out (by have := HM6.out; omega) HV7.out tt_good HT7.out HC5.out (by decide)
 rw [dig_19 HMI.out.sep] at HRO
 obtain ⟨rt, hrt⟩ : ∃ rt, rt = rootK 257 256 [E0, EF] 0 := ⟨_, rfl⟩
 rw [← hrt] at HRO
 have HRO := Lib.hid HRO
 have HRL : Hid (rt.length = 32) := by show _ = _; rw [hrt]; exact rootK_len _ _ _ _
 have HRT := Lib.hid hrt
 clear hE7 hc7 hb7 hrt HEN HB6 HH6 HV6 HE6 HI6 HT6 bk
 go_wp2_with fail
 refine HRO.out.mono ?_
 rintro _ w8 ⟨m8, rfl, hm8, hH8, hk8⟩
 have st := stA_new (t := 45) w8 (bA z26) (bA rt) (by rw [bA_size, HRL.out]; exact info26) (by rw [bA_size, bA_size, HRL.out]; rfl) (bA_one _)
 obtain ⟨X, hX⟩ : ∃ X, X = w8.alloc (.cells (bA rt) 45) := ⟨_, rfl⟩
 rw [← hX] at st
 have hbX : Below w8.heap.size w8 X := by rw [hX]; exact Bt.one_below _ _
 have hRX : RowB X w8.heap.size 45 rt := by show _ = _; rw [hX]; exact heap_alloc_new _ _
 have HBX := Lib.hid (keeps (keep_new HB7.out HN1.out hk8) hbX)
 have HEX := Lib.hid ((HE7.out.hs19 HH7.out hk8).below hbX)
 have HIX := Lib.hid ((HI7.out.hs HH7.out hk8).below hbX)
 have HTX := Lib.hid ((HT7.out.hs HH7.out hk8).below hbX)
 have HDX := Lib.hid ((HD7.out.hs19 HH7.out hk8).below hbX)
 clear hm8 hH8 hk8 hX hbX HRO HB7 HH7 HV7 HE7 HI7 HT7 HD7
 obtain ⟨g3, o3, rfl, hr3⟩ := HIX.out.addr (show 0 < one19.length by decide)
 obtain ⟨g5, o5, rfl, hr5⟩ := HTX.out.addr (show 0 < two19.length by decide)
 obtain ⟨_, g7, o7, rfl, _, hd7⟩ := HDX.out 1 (itF 256 EF, 1) rfl
 have q3 : ∀ x : Later X, x.w.cell? ⟨g3, o3, none⟩ = some (.int .i64 1) := fun x => by have := it_kind (range_below (hr3 0 (itF 256 E0) rfl) x.h); rw [Nat.zero_mul, Nat.add_zero] at this; exact this
 have q5 : ∀ x : Later X, x.w.cell? ⟨g5, o5, none⟩ = some (.int .i64 2) := fun x => by have := it_kind (range_below (hr5 0 itI rfl) x.h); rw [Nat.zero_mul, Nat.add_zero] at this; exact this
 have q52 : ∀ x : Later X, x.w.cell? ⟨g5, o5 + 194, none⟩ = some (.int .i64 1) := fun x => it_kind (range_below (hr5 2 (itF 256 EF) rfl) x.h)
 have q7 : ∀ x : Later X, x.w.cell? ⟨g7, o7 + 98 + 97, none⟩ = some (.int .i64 1) := fun x => by rw [x.h.cell (lt_of_cell hd7)]; simpa using hd7
 have lr : ∀ x : Later X, ldA 45 x.w (.pointer (some ⟨w8.heap.size, 0, none⟩)) = .ok (.value (.agg (bA rt))) x.w := fun x => RowB.ldDig (x.block hRX) HRL.out
 have eq := fun x y w => eqDig rt rt HRL.out HRL.out x y w
 rw [decide_eq_true (rfl : rt = rt)] at eq
 have ct := fun w => cut_two19 g5 o5 3 c5 (Nat.le_trans (by decide) HC5.out) w
 obtain ⟨ckv, hckv⟩ : ∃ ckv : Nat → Int, ckv = fun m => chkI (two19.take m) := ⟨_, rfl⟩
 have HCK : Hid (∀ (x : Later X) (m : Nat), m ≤ 3 → Calls Tryz.prog 18 #[.slice (some ⟨g5, o5, none⟩) m c5] x.w fun e w' => e = .returned (.int .i64 (ckv m)) ∧ Below x.w.heap.size x.w w') := fun x m hm => by
  have hl : (two19.take m).length = m := by rw [List.length_take]; show min m 3 = m; omega
  have := mu.check x.w (two19.take m) (some ⟨g5, o5, none⟩) c5 (fun i y hi => by
   rw [List.getElem?_take] at hi
   split at hi
   ·exact HTX.out.below x.h i y hi
   ·cases hi) (by rw [hl]; exact Nat.le_trans hm HC5.out) (by rw [hl]; omega)
  rw [hl] at this
  rw [hckv]
  exact this
 have k3 : (ckv 3 == 0) = true := by rw [hckv]; show (chkI two19 == 0) = true; rw [chk_two19]; rfl
 have k2 : (ckv 2 == 5) = true := by rw [hckv]; show (chkI (two19.take 2) == 5) = true; rw [chk_take19]; rfl
 have HRR : Hid (∀ x : Later X, Calls Tryz.prog 29 #[.int .i64 256, .slice (some ⟨w1.heap.size, 0, none⟩) 2 2, .int .i64 0] x.w fun e w' => e = .returned (.agg (bA rt)) ∧ Below x.w.heap.size x.w w') := fun x => by
  have := root7_c 256 257 (some ⟨w1.heap.size, 0, none⟩) 2 [e0, eF] 0 x.w (HEX.out.below x.h) (by decide) HS.out (.inr ⟨by omega, by omega, by omega⟩)
  rw [HRT.out]
  exact this
 clear hr3 hr5 hd7 hRX hckv
 go_wp2_with fail
 refine wp_region_later (by kernel_rfl) (by kernel_rfl) ?_
 simp only [List.append_eq, List.cons_append, List.nil_append]
 repeat (go_big_quiet_step ((first | (go_at_call 18; exact Later.call (HCK.out _ _ (by decide))) | (go_at_call 29; exact Later.call (HRR.out _)))))
 refine wpQuiet_nil ?_
 rintro _ ⟨x, rfl⟩
 have HBZ := Lib.hid (keeps HBX.out x.h)
 clear q3 q5 q52 q7 lr eq ct k3 k2
 go_wp2
 go_ret
 exact ⟨rfl, HBZ.out⟩
end Go.Proofs.YtmfbhohjpkmllaaGreatDoor
