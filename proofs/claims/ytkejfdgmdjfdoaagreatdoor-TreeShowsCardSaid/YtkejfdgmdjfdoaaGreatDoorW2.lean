import Derived.Test.YtkejfdgmdjfdoaaGreatDoorW1
import Derived.Test.YtkejfdgmdjfdoaaGreatDoorJ2
namespace Go.Proofs.YtkejfdgmdjfdoaaGreatDoor
set_option linter.unusedSimpArgs false
set_option linter.unusedVariables false
set_option maxHeartbeats 8000000
set_option maxRecDepth 100000
open Go.RowKit Go.Shelf
theorem keys12 {w : World} {A : Option Addr} {xs : List Cn} (h : CA w A xs) : K32 (xs.map Cn.k) := fun k hk => by
 obtain ⟨x, hx, rfl⟩ := List.mem_map.1 hk
 exact (h.ok x hx).key
theorem apply_no (w : World) (b : Nat) (p : Option Addr) (A : Option Addr) (cA : Nat) (xs : List Cn) (hA : CA w A xs) (hn : xs.length ≤ 50) (h0 : chkK (xs.map Cn.k) ≠ 0) :
  Calls Tryz.prog 54 #[ptr b, .pointer p, .slice A xs.length cA] w fun x w' => x = .returned (.tuple #[.pointer none, .int .i64 (chkK (xs.map Cn.k))]) ∧ Below w.heap.size w w' := by
 have HCK := Lib.hid (check_c A cA xs w hA (by omega))
 obtain ⟨ck, hck⟩ : ∃ ck, ck = chkK (xs.map Cn.k) := ⟨_, rfl⟩
 rw [← hck] at HCK h0 ⊢
 have b0 : (ck != 0) = true := by simpa using h0
 have b1 : decide (ck = 0) = false := decide_eq_false h0
 unfold ptr
 clear hA hn hck
 go_enter Tryz.func54, Tryz.ntmps54
 go_wp2_with fail
 refine HCK.out.mono ?_
 rintro _ w1 ⟨g1, rfl, _, hB1⟩
 have zs := zeroSo
 obtain ⟨SV, hSV⟩ : ∃ v, v = srtC (.slice (some ⟨g1, 0, none⟩) xs.length xs.length) (.slice A xs.length cA) := ⟨_, rfl⟩
 obtain ⟨Y, hY⟩ : ∃ Y, Y = w1.alloc (.cells SV 159) := ⟨_, rfl⟩
 have st0 : stA 159 (w1.alloc (.cells (srtC (.slice none 0 0) (.slice none 0 0)) 159)) (.pointer (some ⟨w1.heap.size, 0, none⟩)) (.agg SV) = .ok .skip Y := by rw [hY, hSV]; exact stA_new w1 _ _ infoSo rfl (srt_one _ _ _ _ _ _)
 have HBY : Hid (Below w.heap.size w Y) := by rw [hY]; exact (hB1.alloc hB1.size _)
 rw [← hSV]
 clear hB1 hSV hY HCK h0
 go_wp2_with fail
 go_ret2
 exact ⟨rfl, HBY.out⟩
theorem apply_yes (w : World) (b : Nat) (n : Int) (c : Nat) (l : List Ent) (T : Tv) (A : Option Addr) (cA : Nat) (xs : List Cn) (hh : Hs w b n c) (hc : c ≤ 40000000) (hv : Vars w) (hM : Mn w n T) (hI : IsMap l T) (hl : l.length ≤ 1000) (hA : CA w A xs) (hcA : xs.length ≤ cA) (hn : xs.length ≤ 50) (hxv : ∀ x ∈ xs, x.v.length ≤ 70000) (h0 : chkK (xs.map Cn.k) = 0) :
  Calls Tryz.prog 54 #[ptr b, T.val, .slice A xs.length cA] w fun x w' => ∃ T', x = .returned (.tuple #[T'.val, .int .i64 0]) ∧ IsMap (appC l (xs.map Cn.chg)) T' ∧ Made Mn w b n T T' (c + 90000) w' := by
 have HCK := Lib.hid (check_c A cA xs w hA (by omega))
 rw [h0] at HCK
 have hks : AscS (xs.map Cn.k) := chk_asc _ (keys12 hA) h0
 obtain ⟨pT, hpT⟩ := val_ptr nd_c hM
 have hcost : cost12 xs.length 0 ≤ 90000 := by unfold cost12; omega
 have HAL : Hid (∀ Y g, Below w.heap.size w Y → KS Y (some ⟨g, 0, none⟩) (xs.map Cn.k) → Calls Tryz.prog 85 #[.pointer (some ⟨b, 0, none⟩), .pointer pT, .agg (srtC (.slice (some ⟨g, 0, none⟩) xs.length xs.length) (.slice A xs.length cA)), .int .i64 0] Y fun e w' => ∃ T', e = .returned T'.val ∧ IsMap (appC l (xs.map Cn.chg)) T' ∧ Made Mn w b n T T' (c + 90000) w') := fun Y g hY hk => by
  have h := apply_all 256 0 rfl Y c l T xs (some ⟨g, 0, none⟩) A xs.length cA (hs_bel12 hh hY) (by omega) (hv.below hY) (nd_c.below hM hY) hI.sub (by omega) (by omega) (by omega) (AptC.zero fun x hx => by
   obtain ⟨y, hy, rfl⟩ := List.mem_map.1 hx
   exact (hA.ok y hy).key) hks hk (hA.below hY) (Nat.le_refl _) hcA hxv
  rw [hpT] at h
  refine Calls.mono h ?_
  rintro _ w' ⟨T', rfl, h1, h2⟩
  exact ⟨T', rfl, h1.map, (h2.bel12 hY).le12 (by omega)⟩
 rw [hpT]
 unfold ptr
 clear hh hc hv hM hI hl hA hcA hn hxv h0 hks hpT hcost
 go_enter Tryz.func54, Tryz.ntmps54
 go_wp2_with fail
 refine HCK.out.mono ?_
 rintro _ w1 ⟨g1, rfl, hk1, hB1⟩
 have zs := zeroSo
 obtain ⟨SV, hSV⟩ : ∃ v, v = srtC (.slice (some ⟨g1, 0, none⟩) xs.length xs.length) (.slice A xs.length cA) := ⟨_, rfl⟩
 obtain ⟨Y, hY⟩ : ∃ Y, Y = w1.alloc (.cells SV 159) := ⟨_, rfl⟩
 have st0 : stA 159 (w1.alloc (.cells (srtC (.slice none 0 0) (.slice none 0 0)) 159)) (.pointer (some ⟨w1.heap.size, 0, none⟩)) (.agg SV) = .ok .skip Y := by rw [hY, hSV]; exact stA_new w1 _ _ infoSo rfl (srt_one _ _ _ _ _ _)
 have ls : ldA 159 Y (.pointer (some ⟨w1.heap.size, 0, none⟩)) = .ok (.value (.agg SV)) Y := by rw [hY, hSV]; exact ldSo (heap_alloc_new w1 _)
 have hbY : Below w1.heap.size w1 Y := by rw [hY]; exact (Below.refl _ _).alloc (Nat.le_refl _) _
 have HA := Lib.hid (HAL.out Y g1 (hB1.trans (hbY.mono hB1.size)) (hk1.below hbY))
 rw [← hSV] at HA ⊢
 clear hB1 hSV hY hbY hk1 HCK HAL
 go_wp2_with fail
 refine HA.out.mono ?_
 rintro _ w3 ⟨T', rfl, h1, h2⟩
 obtain ⟨p', hp'⟩ := val_ptr nd_c h2.ms
 rw [hp']
 have HP := Lib.hid hp'
 have HF : Hid (IsMap (appC l (xs.map Cn.chg)) T' ∧ Made Mn w b n T T' (c + 90000) w3) := ⟨h1, h2⟩
 clear h1 h2 hp' HA ls st0 zs
 go_wp2_with fail
 go_ret2
 exact ⟨T', by rw [HP.out]; rfl, HF.out⟩
theorem refused12 {w w' : World} {b : Nat} {n : Int} {c m : Nat} (hh : Hs w b n c) (hm : c ≤ m) (hB : Below w.heap.size w w') : Refused w b n m w' := ⟨⟨c, hm, hs_bel12 hh hB⟩, Keep.of_below hB⟩
theorem ba_c : BaV Mn where
 apply := fun w b n c l T A cA xs hh hc hv hM hI hl hA hcA hn hxv => by
  by_cases h0 : chkK (xs.map Cn.k) = 0
  ·exact (apply_yes w b n c l T A cA xs hh hc hv hM hI hl hA hcA hn hxv h0).mono fun _ _ h => ⟨fun _ => h, fun h1 => absurd h0 h1⟩
  ·obtain ⟨p, hp⟩ := val_ptr nd_c hM
   rw [hp]
   exact (apply_no w b p A cA xs hA hn h0).mono fun _ _ ⟨h1, h2⟩ => ⟨fun h => absurd h h0, fun _ => ⟨h1, refused12 hh (Nat.le_add_right _ _) h2⟩⟩
end Go.Proofs.YtkejfdgmdjfdoaaGreatDoor
