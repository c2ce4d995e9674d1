import Derived.Test.YtmfbhohjpkmllaaGreatDoorIF
import Derived.Test.YtmfbhohjpkmllaaGreatDoorMD
import Derived.BigQuiet
namespace Go.Proofs.YtmfbhohjpkmllaaGreatDoor
set_option linter.unusedSimpArgs false
set_option linter.unusedVariables false
set_option maxHeartbeats 8000000
set_option maxRecDepth 100000
open Go.RowKit
theorem checks19_w {M : World → Int → Tv → Prop} (mu : MuV M) (al : Alive19) (A : Option Addr) (l : List It) (c : Nat) (W : World) (hv : Vars W) (hA : IA W A l) (hc : l.length ≤ c) :
  Calls Tryz.prog 4 #[.slice A l.length c] W (Aye W) := by
 have HAL := Lib.hid (al W hv)
 by_cases h : l.length ≤ 1200
 ·have HF := Lib.hid (few19_yes l.length c A W h)
  have HA := Lib.hid hA
  have HC := Lib.hid hc
  have HMU := Lib.hid mu
  have HL : Hid (l.length ≤ 1000000) := Nat.le_trans h (by decide)
  obtain ⟨z, hz⟩ : ∃ z, z = chkI l := ⟨_, rfl⟩
  have HZ := Lib.hid hz
  have ez : (z == z) = true := by simp
  clear hA hc mu hv al h hz
  go_enter Tryz.func4, Tryz.ntmps4
  go_wp2_with fail
  refine HF.out.mono ?_
  rintro _ _ ⟨rfl, rfl⟩
  go_wp2_with fail
  refine HAL.out.mono ?_
  rintro _ w2 ⟨rfl, hb⟩
  have HB2 := Lib.hid hb
  have HCK := HMU.out.check w2 l A c (HA.out.below hb) HC.out HL.out
  rw [← HZ.out] at HCK
  have HCK := Lib.hid HCK
  clear hb
  go_wp2_with fail
  refine HCK.out.mono ?_
  rintro _ w3 ⟨rfl, hb⟩
  have HB3 := Lib.hid (keeps HB2.out hb)
  have HRC := rcheck19_c A c l w3 (HA.out.below HB3.out) HL.out
  rw [← HZ.out] at HRC
  have HRC := Lib.hid HRC
  clear hb HCK
  go_wp2_with fail
  refine HRC.out.mono ?_
  rintro _ w4 ⟨rfl, hb⟩
  have HB4 := Lib.hid (keeps HB3.out hb)
  clear hb HRC
  go_wp2_with fail
  go_ret
  exact ⟨rfl, HB4.out⟩
 ·have HF := Lib.hid (few19_no l.length c A W h)
  clear hA hc mu hv al h
  go_enter Tryz.func4, Tryz.ntmps4
  go_wp2_with fail
  refine HF.out.mono ?_
  rintro _ _ ⟨rfl, rfl⟩
  go_wp2_with fail
  refine HAL.out.mono ?_
  rintro _ w2 ⟨rfl, hb⟩
  have HB2 := Lib.hid hb
  clear hb
  go_wp2_with fail
  go_ret
  exact ⟨rfl, HB2.out⟩
theorem bldDig_none19 (w : World) : bldA 45 w #[] = .ok (.value (.agg (bA z26))) w := by kernel_rfl
theorem roots19_out (al : Alive19) (n : Int) (A : Option Addr) (l c : Nat) (W : World) (hv : Vars W) (h : (n < 0 ∨ 256 < n) ∨ ¬ l ≤ 1200) :
  Calls Tryz.prog 5 #[.int .i64 n, .slice A l c] W (Aye W) := by
 have HAL := Lib.hid (al W hv)
 by_cases hn : n < 0 ∨ 256 < n
 ·have HR : Hid (∀ w, Calls Tryz.prog 20 #[.int .i64 n] w fun e w' => e = .returned (.bool false) ∧ w = w') := fun w => by
   have := right5_c n w
   rwa [decide_eq_false (by omega)] at this
  clear al hv h hn
  go_enter Tryz.func5, Tryz.ntmps5
  go_wp2_with fail
  refine (HR.out W).mono ?_
  rintro _ _ ⟨rfl, rfl⟩
  go_wp2_with fail
  refine HAL.out.mono ?_
  rintro _ w2 ⟨rfl, hb⟩
  have HB2 := Lib.hid hb
  clear hb
  go_wp2_with fail
  go_ret
  exact ⟨rfl, HB2.out⟩
 ·have HR : Hid (∀ w, Calls Tryz.prog 20 #[.int .i64 n] w fun e w' => e = .returned (.bool true) ∧ w = w') := fun w => by
   have := right5_c n w
   rwa [decide_eq_true (by omega)] at this
  have HF := Lib.hid (few19_no l c A W (h.resolve_left hn))
  clear al hv h hn
  go_enter Tryz.func5, Tryz.ntmps5
  go_wp2_with fail
  refine (HR.out W).mono ?_
  rintro _ wr ⟨rfl, hwr⟩
  rw [← hwr]
  clear hwr
  go_wp2_with fail
  refine HF.out.mono ?_
  rintro _ wr ⟨rfl, hwr⟩
  rw [hwr]
  clear hwr
  go_wp2_with fail
  refine HAL.out.mono ?_
  rintro _ w2 ⟨rfl, hb⟩
  have HB2 := Lib.hid hb
  clear hb
  go_wp2_with fail
  go_ret
  exact ⟨rfl, HB2.out⟩
theorem roots19_in {M : World → Int → Tv → Prop} (mu : MuV M) (al : Alive19) (n : Int) (A : Option Addr) (l : List It) (c : Nat) (W : World) (hv : Vars W) (hA : IA W A l) (hc : l.length ≤ c) (h : l.length ≤ 1200) (h0 : 0 ≤ n) (h1 : n ≤ 256) :
  Calls Tryz.prog 5 #[.int .i64 n, .slice A l.length c] W (Aye W) := by
 have HR : Hid (∀ w, Calls Tryz.prog 20 #[.int .i64 n] w fun e w' => e = .returned (.bool true) ∧ w = w') := fun w => by
  have := right5_c n w
  rwa [decide_eq_true ⟨h0, h1⟩] at this
 have HF := Lib.hid (few19_yes l.length c A W h)
 have HHI := Lib.hid (hash_in n W h0 h1)
 have HAL := Lib.hid al
 have HVX := Lib.hid hv
 have HA := Lib.hid hA
 have HC := Lib.hid hc
 have HL := Lib.hid h
 have HMU := Lib.hid mu
 obtain ⟨z, hz⟩ : ∃ z, z = chkI l := ⟨_, rfl⟩
 have HZ := Lib.hid hz
 have bz := bldDig_none19
 clear hA hc mu hv al h hz h0 h1
 go_enter Tryz.func5, Tryz.ntmps5
 go_wp2_with fail
 refine (HR.out W).mono ?_
 rintro _ wr ⟨rfl, hwr⟩
 rw [← hwr]
 clear hwr
 go_wp2_with fail
 refine HF.out.mono ?_
 rintro _ wr ⟨rfl, hwr⟩
 rw [hwr]
 clear hwr
 go_wp2_with fail
 refine HHI.out.mono ?_
 rintro _ w2 ⟨b, rfl, hbn, hH, hB⟩
 have HN2 := Lib.hid hbn
 have HH2 := Lib.hid hH
 have HB2 := Lib.hid hB
 have HV2 := Lib.hid (HVX.out.below hB)
 have HA2 := Lib.hid (HA.out.below hB)
 clear hbn hH hB HHI
 have HRO : Hid (∃ rt : List UInt8, rt.length = 32 ∧ (z ≠ 0 → rt = z26) ∧ (z = 0 → ∃ t : Mt, t.Good ∧ l = t.flat ∧ rt = digM n t) ∧ Calls Tryz.prog 21 #[ptr b, .slice A l.length c] w2 fun e w' => ∃ m', e = .returned (.tuple #[.agg (bA rt), .int .i64 z]) ∧ Hs w' b n m' ∧ Keep (fun i => i = b) w2 w') := by
  by_cases hz : z = 0
  ·obtain ⟨t, hg, ht⟩ := chkI_ok.1 (HZ.out.symm.trans hz)
   refine ⟨digM n t, digM_len n t (HA2.out.ok t.top (by rw [ht]; exact t.top_mem)), fun h => absurd hz h, fun _ => ⟨t, hg, ht, rfl⟩, ?_⟩
   have := HMU.out.root w2 b n 0 t A c HH2.out (by decide) HV2.out hg (by rw [← ht]; exact HA2.out) (by rw [← ht]; exact HC.out) (by rw [← ht]; have := HL.out; omega)
   rw [← ht] at this
   rw [hz]
   exact this.mono fun e w' ⟨m', h1, _, h3, h4⟩ => ⟨m', h1, h3, h4⟩
  ·refine ⟨z26, rfl, fun _ => rfl, fun h => absurd h hz, ?_⟩
   have := HMU.out.rootBad w2 b n 0 l A c HH2.out (by decide) HV2.out HA2.out HC.out (by have := HL.out; omega) (by rw [← HZ.out]; exact hz)
   rw [← HZ.out] at this
   exact this.mono fun e w' ⟨m', h1, _, h3, h4⟩ => ⟨m', h1, h3, h4⟩
 obtain ⟨rt, hrl, hrb, hrg, hro⟩ := HRO.out
 have HRL := Lib.hid hrl
 have HRB := Lib.hid hrb
 have HRG := Lib.hid hrg
 have HRX := Lib.hid hro
 clear hrl hrb hrg hro HRO
 go_wp2_with fail
 refine HRX.out.mono ?_
 rintro _ w3 ⟨m3, rfl, hH3, hk3⟩
 have HB3 := Lib.hid (keep_new HB2.out HN2.out hk3)
 have HA3 := Lib.hid (HA2.out.hs HH2.out hk3)
 have st := stA_new (t := 45) w3 (bA z26) (bA rt) (by rw [bA_size, HRL.out]; exact info26) (by rw [bA_size, bA_size, HRL.out]; rfl) (bA_one _)
 obtain ⟨X, hX⟩ : ∃ X, X = w3.alloc (.cells (bA rt) 45) := ⟨_, rfl⟩
 rw [← hX] at st
 have hbX : Below w3.heap.size w3 X := by rw [hX]; exact Bt.one_below _ _
 have hRX : RowB X w3.heap.size 45 rt := by show _ = _; rw [hX]; exact heap_alloc_new _ _
 have HBX := Lib.hid (keeps HB3.out hbX)
 have HAX := Lib.hid (HA3.out.below hbX)
 have HRX2 := Lib.hid hRX
 have HCK := rcheck19_c A c l X HAX.out (by have := HL.out; omega)
 rw [← HZ.out] at HCK
 have HCK := Lib.hid HCK
 clear hH3 hk3 hX hbX hRX HRX HB2 HH2 HV2 HA2
 by_cases hz : z = 0
 ·obtain ⟨t, hg, ht, hrt⟩ := HRG.out hz
  subst hz
  have HG := Lib.hid hg
  have HT := Lib.hid ht
  have HRT := Lib.hid hrt
  clear hg ht hrt
  go_wp2_with fail
  refine HCK.out.mono ?_
  rintro _ w4 ⟨rfl, hb4⟩
  have HB4 := Lib.hid (keeps HBX.out hb4)
  have HA4 := Lib.hid (HAX.out.below hb4)
  have hr4 : RowB w4 w3.heap.size 45 rt := HRX2.out.keep (Keep.of_below (L := fun _ => False) hb4) id
  have lr : ∀ x : Later w4, ldA 45 x.w (.pointer (some ⟨w3.heap.size, 0, none⟩)) = .ok (.value (.agg (bA rt))) x.w := fun x => RowB.ldDig (x.block hr4) HRL.out
  have eq := fun x y w => eqDig rt rt HRL.out HRL.out x y w
  rw [decide_eq_true (rfl : rt = rt)] at eq
  have HRD : Hid (∀ x : Later w4, Calls Tryz.prog 22 #[.int .i64 n, .slice A l.length c, .int .i64 0, .int .i64 0] x.w fun e w' => e = .returned (.agg (bA rt)) ∧ Below x.w.heap.size x.w w') := fun x => by
   have := rdig19_c n A c l (by have := HL.out; omega) t 256 0 0 [] HG.out.1 HG.out.2.1 rfl (fun y hy => ⟨HA4.out.ok y (by rw [HT.out]; exact hy), (HG.out.2.2 y hy).1⟩) (by rw [List.drop_zero, HT.out, List.append_nil]) x.w (HA4.out.below x.h)
   rw [← HRT.out] at this
   exact this
  have HAW : Hid (∀ x : Later w4, Calls Tryz.prog 11 #[] x.w fun e w' => e = .returned (.bool true) ∧ Below x.w.heap.size x.w w') := fun x => HAL.out _ (HVX.out.below (HB4.out.trans (x.h.mono HB4.out.size)))
  clear hb4 hr4 HCK st
  go_wp2_with fail
  refine wp_region_later (by kernel_rfl) (by kernel_rfl) ?_
  repeat (go_big_quiet_step ((first | (go_at_call 11; exact Later.call (HAW.out _)) | (go_at_call 22; exact Later.call (HRD.out _)))))
  refine wpQuiet_nil ?_
  rintro _ ⟨x, rfl⟩
  have HBZ := Lib.hid (keeps HB4.out x.h)
  clear lr eq
  go_wp2
  go_ret
  exact ⟨rfl, HBZ.out⟩
 ·have ez : (z == z) = true := by simp
  have hrt := HRB.out hz
  subst hrt
  have nz : (z != 0) = true := by simpa using hz
  clear hz
  go_wp2_with fail
  refine HCK.out.mono ?_
  rintro _ w4 ⟨rfl, hb4⟩
  have HB4 := Lib.hid (keeps HBX.out hb4)
  have hr4 : RowB w4 w3.heap.size 45 z26 := HRX2.out.keep (Keep.of_below (L := fun _ => False) hb4) id
  have HR4 := Lib.hid hr4
  clear hb4 hr4 HCK st
  go_wp2_with fail
  refine (HAL.out w4 (HVX.out.below HB4.out)).mono ?_
  rintro _ w5 ⟨rfl, hb5⟩
  have HB5 := Lib.hid (keeps HB4.out hb5)
  have lr := RowB.ldDig (HR4.out.keep (Keep.of_below (L := fun _ => False) hb5) id) (rfl : z26.length = 32)
  have eq := fun x y w => eqDig z26 z26 rfl rfl x y w
  rw [decide_eq_true (rfl : z26 = z26)] at eq
  clear hb5
  go_wp2_with fail
  go_ret
  exact ⟨rfl, HB5.out⟩
theorem roots19_w {M : World → Int → Tv → Prop} (mu : MuV M) (al : Alive19) (n : Int) (A : Option Addr) (l : List It) (c : Nat) (W : World) (hv : Vars W) (hA : IA W A l) (hc : l.length ≤ c) :
  Calls Tryz.prog 5 #[.int .i64 n, .slice A l.length c] W (Aye W) := by
 by_cases h : (n < 0 ∨ 256 < n) ∨ ¬ l.length ≤ 1200
 ·exact roots19_out al n A l.length c W hv h
 ·exact roots19_in mu al n A l c W hv hA hc (Classical.byContradiction fun e => h (.inr e)) (by omega) (by omega)
end Go.Proofs.YtmfbhohjpkmllaaGreatDoor
