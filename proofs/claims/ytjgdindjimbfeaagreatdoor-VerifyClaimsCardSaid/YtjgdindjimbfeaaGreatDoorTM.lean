import Derived.Test.YtjgdindjimbfeaaGreatDoorTJ
import Derived.Test.YtjgdindjimbfeaaGreatDoorCD
import Derived.Test.YtjgdindjimbfeaaGreatDoorAD
import Derived.Test.YtjgdindjimbfeaaGreatDoorLM
import Derived.Test.YtjgdindjimbfeaaGreatDoorBtOf
import Derived.BigQuiet
import Derived.Test.YtjgdindjimbfeaaGreatDoorVd
import Derived.Test.YtjgdindjimbfeaaGreatDoorM6
namespace Go.Proofs.YtjgdindjimbfeaaGreatDoor
set_option linter.unusedSimpArgs false
set_option linter.unusedVariables false
set_option maxHeartbeats 16000000
set_option maxRecDepth 100000
section
open Go.RowKit
theorem kc_kof18 {l : List UInt8} (h : l.length = 32) : Bt.kc (Bt.kof l 32) = bA l := by
 unfold Bt.kc bA
 refine congrArg List.toArray (List.ext_getElem (by simp [h]) fun j h1 h2 => ?_)
 have hj : j < 32 := by simpa using h1
 have hj2 : j < l.length := by omega
 simp [Bt.kof, bv, hj, List.getD, hj2]
theorem of18_c (A : Option Addr) (c : Nat) (l : List UInt8) (w : World) (hA : BA w A l) (hl : l.length = 32) :
  Calls Tryz.prog 33 #[.slice A l.length c] w fun e w' => e = .returned (.agg (bA l)) ∧ Below w.heap.size w w' := by
 have := Bt.rof_c A c l w hA hl
 rwa [kc_kof18 hl] at this
theorem field_lval_f (f g : Nat → UInt8) (w : World) : (Instr.field 50 (.agg (bA ((List.range 32).map f ++ (List.range 32).map g))) 1).run Tryz.prog w = .ok (.agg (bA ((List.range 32).map g))) w := by kernel_rfl
theorem field_lval (k d : List UInt8) (hk : k.length = 32) (hd : d.length = 32) (w : World) : (Instr.field 50 (.agg (bA (k ++ d))) 1).run Tryz.prog w = .ok (.agg (bA d)) w := by
 have := field_lval_f (fun j => k.getD j 0) (fun j => d.getD j 0) w
 rwa [← list32 k hk, ← list32 d hd] at this
theorem rlast18_c (n : Int) (root : List UInt8) (c : Cl) (A B : Option Addr) (ca cb : Nat) (p : Pf) (D : Option Addr) (cd : Nat) (w : World) (hroot : root.length = 32) (hA : BA w A c.k) (hB : BA w B c.v) (hk : c.k.length = 32) (hv : c.pr = true → c.v.length ≤ 65535)
  (hp : p.Ok) (hD : DS w D p.sib) (h0 : chkP p = 0) :
  Calls Tryz.prog 22 #[.int .i64 n, .agg (bA root), .agg (clC c A ca B cb), .agg (pfC p (.slice D p.sib.length cd))] w fun e w' => e = .returned (.tuple #[.int .i64 (lastV18 n root c p).1, .int .i64 (lastV18 n root c p).2]) ∧ Below w.heap.size w w' := by
 obtain ⟨X1, hX1⟩ : ∃ X1, X1 = (w.alloc (.cells (bA root) 47)).alloc (.cells (clC c A ca B cb) 24) := ⟨_, rfl⟩
 obtain ⟨X, hX⟩ : ∃ X, X = X1.alloc (.cells (pfC p (.slice D p.sib.length cd)) 53) := ⟨_, rfl⟩
 have hz1 : X1.heap.size = w.heap.size + 1 + 1 := by rw [hX1]; simp
 have hb1 : Below w.heap.size w X1 := by rw [hX1]; exact Bt.two_below _ _ _
 have hbX : Below X1.heap.size X1 X := by rw [hX]; exact Bt.one_below _ _
 have hbw : Below w.heap.size w X := hb1.trans (hbX.mono hb1.size)
 have hR : X.heap[w.heap.size]? = some (.cells (bA root) 47 (0, 0)) := by rw [hbX.block _ (by omega), hX1]; exact heap_alloc2_old w _ _
 have hC : ClAt X (w.heap.size + 1) c A ca B cb := by
  refine ClAt.below ?_ hbX (by omega)
  rw [hX1]; exact heap_alloc2_new w _ _
 have hP : PfAt X (w.heap.size + 1 + 1) p (.slice D p.sib.length cd) := by rw [hX, ← hz1]; exact PfAt.one _ _ _
 have c0 := hC.k
 rw [hX, hX1] at c0
 have HX1 := Lib.hid hX1
 have HX := Lib.hid hX
 have HBW := Lib.hid hbw
 have HR := Lib.hid hR
 have HC := Lib.hid hC
 have HP := Lib.hid hP
 have HPO := Lib.hid hp
 have HK := Lib.hid hk
 have HV := Lib.hid hv
 have HDX := Lib.hid (hD.below hbw)
 have HBX := Lib.hid (hB.below hbw)
 have HRL := Lib.hid hroot
 have hg : (p.kind = 0 ∨ p.kind = 1) ∧ p.good := by
  rcases chkP_cases p with ⟨h1, _⟩ | ⟨h1, ⟨h2, _⟩ | ⟨_, h2⟩⟩
  ·omega
  ·omega
  ·exact ⟨h1, h2⟩
 have HG := Lib.hid hg
 have HOF := Lib.hid (of18_c A ca c.k X (hA.below hbw) hk)
 clear hX1 hX hz1 hb1 hbX hbw hR hC hP hp hk hv hD hA hB hroot hg h0
 go_enter Tryz.func22, Tryz.ntmps22
 go_wp2_with fail
 rw [← HX1.out, ← HX.out]
 refine HOF.out.mono ?_
 rintro _ w1 ⟨rfl, hb1⟩
 obtain ⟨Y1, hY1⟩ : ∃ Y1, Y1 = w1.alloc (.cells (bA c.k) 48) := ⟨_, rfl⟩
 obtain ⟨Y, hY⟩ : ∃ Y, Y = Y1.alloc (.cells (bA z26) 47) := ⟨_, rfl⟩
 have st1 : stA 48 (w1.alloc (.cells (Bt.kc Bt.kz) 48)) (.pointer (some ⟨w1.heap.size, 0, none⟩)) (.agg (bA c.k)) = .ok .skip Y1 := by
  have h := stA_new (t := 48) w1 (Bt.kc Bt.kz) (bA c.k) (by rw [bA_size, HK.out]; exact infoKey) (by rw [bA_size, HK.out]; rfl) (bA_one _)
  rw [h, hY1]
 have hz1 : Y1.heap.size = w1.heap.size + 1 := by rw [hY1]; simp
 have hbY1 : Below w1.heap.size w1 Y1 := by rw [hY1]; exact Bt.one_below _ _
 have hbY : Below Y1.heap.size Y1 Y := by rw [hY]; exact Bt.one_below _ _
 have hXY : Below X.heap.size X Y := hb1.trans ((hbY1.trans (hbY.mono hbY1.size)).mono hb1.size)
 have HKR : Hid (RowB Y w1.heap.size 48 c.k) := by show Y.heap[w1.heap.size]? = _; rw [hbY.block _ (by omega), hY1]; exact heap_alloc_new _ _
 have HVR : Hid (RowB Y Y1.heap.size 47 z26) := by show Y.heap[Y1.heap.size]? = _; rw [hY]; exact heap_alloc_new _ _
 have HXY := Lib.hid hXY
 have HCY : Hid (ClAt Y (w.heap.size + 1) c A ca B cb) := HC.out.below hXY (lt_of_heap HC.out)
 have HPY : Hid (PfAt Y (w.heap.size + 1 + 1) p (.slice D p.sib.length cd)) := HP.out.below hXY HP.out.lt
 have cp := HCY.out.pr
 rw [hY] at cp
 have HYE := Lib.hid hY
 have HZ1 := Lib.hid hz1
 have HX2 : Hid (X.heap.size ≤ w1.heap.size) := hb1.size
 clear hb1 hY1 hY hz1 hbY1 hbY hXY HOF c0
 cases hp : c.pr with
 | true =>
  rw [hp] at cp
  have HPR := Lib.hid hp
  obtain ⟨vd, hvd⟩ : ∃ vd, vd = digL n (valL c.v) := ⟨_, rfl⟩
  have HVD : Hid (vd = valD n c) := by show _ = _; unfold valD; rw [hp, hvd]; rfl
  have HVL : Hid (vd.length = 32) := by show _ = _; rw [hvd]; exact dig_len _ _
  have HLO := rleafof_big n c.k B cb c.v Y HK.out (HBX.out.below HXY.out) (by have := HV.out hp; omega)
  rw [← hvd] at HLO
  have HLO := Lib.hid HLO
  have lk := HKR.out.ldKey HK.out
  have cv := HCY.out.v
  rw [HYE.out] at lk cv
  have fl := field_lval c.k vd HK.out HVL.out
  clear hp hvd
  go_wp2_with fail
  rw [← HYE.out]
  refine HLO.out.mono ?_
  rintro _ w2 ⟨rfl, hb2⟩
  have hV2 : RowB w2 Y1.heap.size 47 z26 := RowB.keep HVR.out (Keep.of_below (L := fun _ => False) hb2) id
  have st2 : stA 47 w2 (.pointer (some ⟨Y1.heap.size, 0, none⟩)) (.agg (bA vd)) = .ok .skip (w2.setRow (Y1.heap.size) (bA vd)) := stA_row hV2 (by rw [bA_size, HVL.out]; exact info26) (by rw [bA_size, bA_size, HVL.out]; rfl) (bA_one _)
  obtain ⟨Z, hZ⟩ : ∃ Z, Z = w2.setRow (Y1.heap.size) (bA vd) := ⟨_, rfl⟩
  rw [← hZ] at st2
  have hkZ : Keep (fun i => i = Y1.heap.size) w2 Z := by rw [hZ]; exact Keep.row _ _ _
  have HVR3 : Hid (RowB Z Y1.heap.size 47 vd) := by show Z.heap[Y1.heap.size]? = _; rw [hZ]; exact setRow_heap _ _ _ _ _ _ hV2
  have hX2 := HXY.out.trans (hb2.mono HXY.out.size)
  have HB3 : Hid (Below X.heap.size X Z) := hX2.trans (hkZ.below hX2.size fun i e => by have e : i = Y1.heap.size := e; have := HX2.out; have := HZ1.out; omega)
  have HKR3 : Hid (RowB Z w1.heap.size 48 c.k) := (RowB.keep HKR.out (Keep.of_below (L := fun _ => False) hb2) id).keep hkZ (by have := HZ1.out; omega)
  have HC3 : Hid (ClAt Z (w.heap.size + 1) c A ca B cb) := HC.out.below HB3.out (lt_of_heap HC.out)
  have HP3 : Hid (PfAt Z (w.heap.size + 1 + 1) p (.slice D p.sib.length cd)) := HP.out.below HB3.out HP.out.lt
  clear hb2 hV2 hZ hkZ hX2 lk cv cp st1 HLO
  have hP3 := HP3.out
  have lp := hP3.ld HPO.out
  have lk := HKR3.out.ldKey HK.out
  have lv := HVR3.out.ldDig HVL.out
  have cp := HC3.out.pr
  rw [HPR.out] at cp
  obtain ⟨sp, hsp⟩ : ∃ sp, sp = supYes p c.k vd := ⟨_, rfl⟩
  have HSP := rsup_yes p HPO.out (.slice D p.sib.length cd) c.k vd HK.out HVL.out Z
  rw [← hsp] at HSP
  have hsup : supP p c.k (valD n c) c.pr = sp := by rw [HPR.out, ← HVD.out, hsp]; unfold supP; rw [if_pos rfl]
  have HSP := Lib.hid HSP
  have HSUP := Lib.hid hsup
  clear hP3 hsp hsup
  go_wp2_with fail
  refine HSP.out.mono ?_
  rintro _ w5 ⟨rfl, hb5⟩
  have HB5 : Hid (Below X.heap.size X w5) := HB3.out.trans (hb5.mono HB3.out.size)
  have lp := (HP3.out.below hb5 HP3.out.lt).ld HPO.out
  have lk := (RowB.keep HKR3.out (Keep.of_below (L := fun _ => False) hb5) id).ldKey HK.out
  clear hb5 lv cp HSP
  cases sp with
  | false =>
   have hl : lastV18 n root c p = (4, 12) := by unfold lastV18; rw [if_pos HSUP.out]
   have HL := Lib.hid hl
   clear hl lp lk
   go_wp2_with fail
   go_ret2
   exact ⟨by rw [HL.out]; rfl, HBW.out.trans (HB5.out.mono HBW.out.size)⟩
  | true =>
   have HST := Lib.hid (rsteps_c n p HPO.out D cd c.k HK.out w5 (HDX.out.below HB5.out) HG.out.2 HG.out.1)
   go_wp2_with fail
   refine HST.out.mono ?_
   rintro _ w6 ⟨v6, rfl, hO6, hb6⟩
   have HB6 : Hid (Below X.heap.size X w6) := HB5.out.trans (hb6.mono HB5.out.size)
   have hml : ∀ s ∈ stepL n p c.k, s.length = 32 := stpB_mem _ _ _ _ _ _
   obtain ⟨A6, c6, rfl, hD6, _⟩ := hO6.ds hml
   obtain ⟨dd, hdd⟩ : ∃ dd, dd = p.dep.toNat := ⟨_, rfl⟩
   obtain ⟨rt, hrt⟩ : ∃ rt, rt = rootP n p c.k := ⟨_, rfl⟩
   have hlast := stepL_last n p c.k
   rw [← hdd, ← hrt] at hlast
   have hln : (stepL n p c.k).length = dd + 1 := by rw [hdd]; exact stepL_len
   obtain ⟨hrl, g6, o6, rfl, hr6⟩ := hD6 dd rt hlast
   have hd2 : dd ≤ 256 := by have := HG.out.2.2.1; have := HG.out.2.1; omega
   have la : ∀ x : Later w6, ldA 47 x.w (.pointer (some ⟨g6, o6 + dd * 32, none⟩)) = .ok (.value (.agg (bA rt))) x.w := fun x => ldDig (range_below hr6 x.h) hrl
   have hR6 : w6.heap[w.heap.size]? = some (.cells (bA root) 47 (0, 0)) := by rw [HB6.out.block _ (lt_of_heap HR.out)]; exact HR.out
   have lr : ∀ x : Later w6, ldA 47 x.w (.pointer (some ⟨w.heap.size, 0, none⟩)) = .ok (.value (.agg (bA root))) x.w := fun x => RowB.ldDig (x.block hR6) HRL.out
   have ne := fun x y w => neDig rt root hrl HRL.out x y w
   rw [hln]
   have v1 : IntKind.i64.wrap ((dd : Int) + 1) = (dd : Int) + 1 := wrap17 (by omega) (by omega)
   have v2 : IntKind.i64.wrap (dd : Int) = (dd : Int) := wrap17 (by omega) (by omega)
   have j0 : (0 : Int) ≤ (dd : Int) := by omega
   have j1 : (dd : Int) < (dd : Int) + 1 := by omega
   have HRT := Lib.hid hrt
   have HD2 := Lib.hid hd2
   clear hO6 hb6 hml hD6 hdd hlast hln hrl hr6 hR6 hrt lp lk HST
   by_cases he : rt = root
   ·have hdec : decide (rt = root) = true := decide_eq_true he
    have hl : lastV18 n root c p = (0, 0) := by unfold lastV18; rw [if_neg (by rw [HSUP.out]; decide), if_neg (by rw [← HRT.out]; exact fun h => h he)]
    have HL := Lib.hid hl
    clear hl he
    go_wp2_with fail
    refine wp_region_later (by kernel_rfl) (by kernel_rfl) ?_
    repeat (go_big_quiet_step (fail))
    refine wpQuiet_nil ?_
    rintro _ ⟨x, rfl⟩
    have HB7 : Hid (Below X.heap.size X x.w) := HB6.out.trans (x.h.mono HB6.out.size)
    clear la lr
    go_wp2_with fail
    go_ret2
    exact ⟨by rw [HL.out]; rfl, HBW.out.trans (HB7.out.mono HBW.out.size)⟩
   ·have hdec : decide (rt = root) = false := decide_eq_false he
    have hl : lastV18 n root c p = (5, 13) := by unfold lastV18; rw [if_neg (by rw [HSUP.out]; decide), if_pos (by rw [← HRT.out]; exact he)]
    have HL := Lib.hid hl
    clear hl he
    go_wp2_with fail
    refine wp_region_later (by kernel_rfl) (by kernel_rfl) ?_
    repeat (go_big_quiet_step (fail))
    refine wpQuiet_nil ?_
    rintro _ ⟨x, rfl⟩
    have HB7 : Hid (Below X.heap.size X x.w) := HB6.out.trans (x.h.mono HB6.out.size)
    clear la lr
    go_wp2_with fail
    go_ret2
    exact ⟨by rw [HL.out]; rfl, HBW.out.trans (HB7.out.mono HBW.out.size)⟩
 | false =>
  rw [hp] at cp
  have HPR := Lib.hid hp
  obtain ⟨vd, hvd⟩ : ∃ vd : List UInt8, vd = z26 := ⟨_, rfl⟩
  have HVD : Hid (vd = valD n c) := by show _ = _; unfold valD; rw [hp, hvd]; rfl
  have HVL : Hid (vd.length = 32) := by show _ = _; rw [hvd]; rfl
  obtain ⟨Z, hZ⟩ : ∃ Z, Z = Y := ⟨_, rfl⟩
  have HB3 : Hid (Below X.heap.size X Z) := by show Below _ _ _; rw [hZ]; exact HXY.out
  have HVR3 : Hid (RowB Z Y1.heap.size 47 vd) := by show RowB _ _ _ _; rw [hZ, hvd]; exact HVR.out
  have HKR3 : Hid (RowB Z w1.heap.size 48 c.k) := by show RowB _ _ _ _; rw [hZ]; exact HKR.out
  have HC3 : Hid (ClAt Z (w.heap.size + 1) c A ca B cb) := by show ClAt _ _ _ _ _ _ _; rw [hZ]; exact HCY.out
  have HP3 : Hid (PfAt Z (w.heap.size + 1 + 1) p (.slice D p.sib.length cd)) := by show PfAt _ _ _ _; rw [hZ]; exact HPY.out
  have HZE : Hid (Z = Y1.alloc (.cells (bA z26) 47)) := by show _ = _; rw [hZ]; exact HYE.out
  have lp := HP3.out.ld HPO.out
  have lk := HKR3.out.ldKey HK.out
  have lv := HVR3.out.ldDig HVL.out
  rw [HZE.out] at lp lk lv
  clear hp hvd hZ
  go_wp2_with fail
  rw [← HZE.out]
  clear lp lk lv cp st1
  obtain ⟨sp, hsp⟩ : ∃ sp, sp = supNo p c.k := ⟨_, rfl⟩
  have HSP := rsup_no p HPO.out (.slice D p.sib.length cd) c.k vd HK.out HVL.out Z
  rw [← hsp] at HSP
  have hsup : supP p c.k (valD n c) c.pr = sp := by rw [HPR.out, ← HVD.out, hsp]; unfold supP; rw [if_neg (by decide)]
  have HSP := Lib.hid HSP
  have HSUP := Lib.hid hsup
  clear hsp hsup
  refine HSP.out.mono ?_
  rintro _ w5 ⟨rfl, hb5⟩
  have HB5 : Hid (Below X.heap.size X w5) := HB3.out.trans (hb5.mono HB3.out.size)
  have lp := (HP3.out.below hb5 HP3.out.lt).ld HPO.out
  have lk := (RowB.keep HKR3.out (Keep.of_below (L := fun _ => False) hb5) id).ldKey HK.out
  clear hb5 HSP
  cases sp with
  | false =>
   have hl : lastV18 n root c p = (4, 12) := by unfold lastV18; rw [if_pos HSUP.out]
   have HL := Lib.hid hl
   clear hl lp lk
   go_wp2_with fail
   go_ret2
   exact ⟨by rw [HL.out]; rfl, HBW.out.trans (HB5.out.mono HBW.out.size)⟩
  | true =>
   have HST := Lib.hid (rsteps_c n p HPO.out D cd c.k HK.out w5 (HDX.out.below HB5.out) HG.out.2 HG.out.1)
   go_wp2_with fail
   refine HST.out.mono ?_
   rintro _ w6 ⟨v6, rfl, hO6, hb6⟩
   have HB6 : Hid (Below X.heap.size X w6) := HB5.out.trans (hb6.mono HB5.out.size)
   have hml : ∀ s ∈ stepL n p c.k, s.length = 32 := stpB_mem _ _ _ _ _ _
   obtain ⟨A6, c6, rfl, hD6, _⟩ := hO6.ds hml
   obtain ⟨dd, hdd⟩ : ∃ dd, dd = p.dep.toNat := ⟨_, rfl⟩
   obtain ⟨rt, hrt⟩ : ∃ rt, rt = rootP n p c.k := ⟨_, rfl⟩
   have hlast := stepL_last n p c.k
   rw [← hdd, ← hrt] at hlast
   have hln : (stepL n p c.k).length = dd + 1 := by rw [hdd]; exact stepL_len
   obtain ⟨hrl, g6, o6, rfl, hr6⟩ := hD6 dd rt hlast
   have hd2 : dd ≤ 256 := by have := HG.out.2.2.1; have := HG.out.2.1; omega
   have la : ∀ x : Later w6, ldA 47 x.w (.pointer (some ⟨g6, o6 + dd * 32, none⟩)) = .ok (.value (.agg (bA rt))) x.w := fun x => ldDig (range_below hr6 x.h) hrl
   have hR6 : w6.heap[w.heap.size]? = some (.cells (bA root) 47 (0, 0)) := by rw [HB6.out.block _ (lt_of_heap HR.out)]; exact HR.out
   have lr : ∀ x : Later w6, ldA 47 x.w (.pointer (some ⟨w.heap.size, 0, none⟩)) = .ok (.value (.agg (bA root))) x.w := fun x => RowB.ldDig (x.block hR6) HRL.out
   have ne := fun x y w => neDig rt root hrl HRL.out x y w
   rw [hln]
   have v1 : IntKind.i64.wrap ((dd : Int) + 1) = (dd : Int) + 1 := wrap17 (by omega) (by omega)
   have v2 : IntKind.i64.wrap (dd : Int) = (dd : Int) := wrap17 (by omega) (by omega)
   have j0 : (0 : Int) ≤ (dd : Int) := by omega
   have j1 : (dd : Int) < (dd : Int) + 1 := by omega
   have HRT := Lib.hid hrt
   have HD2 := Lib.hid hd2
   clear hO6 hb6 hml hD6 hdd hlast hln hrl hr6 hR6 hrt lp lk HST
   by_cases he : rt = root
   ·have hdec : decide (rt = root) = true := decide_eq_true he
    have hl : lastV18 n root c p = (0, 0) := by unfold lastV18; rw [if_neg (by rw [HSUP.out]; decide), if_neg (by rw [← HRT.out]; exact fun h => h he)]
    have HL := Lib.hid hl
    clear hl he
    go_wp2_with fail
    refine wp_region_later (by kernel_rfl) (by kernel_rfl) ?_
    repeat (go_big_quiet_step (fail))
    refine wpQuiet_nil ?_
    rintro _ ⟨x, rfl⟩
    have HB7 : Hid (Below X.heap.size X x.w) := HB6.out.trans (x.h.mono HB6.out.size)
    clear la lr
    go_wp2_with fail
    go_ret2
    exact ⟨by rw [HL.out]; rfl, HBW.out.trans (HB7.out.mono HBW.out.size)⟩
   ·have hdec : decide (rt = root) = false := decide_eq_false he
    have hl : lastV18 n root c p = (5, 13) := by unfold lastV18; rw [if_neg (by rw [HSUP.out]; decide), if_pos (by rw [← HRT.out]; exact he)]
    have HL := Lib.hid hl
    clear hl he
    go_wp2_with fail
    refine wp_region_later (by kernel_rfl) (by kernel_rfl) ?_
    repeat (go_big_quiet_step (fail))
    refine wpQuiet_nil ?_
    rintro _ ⟨x, rfl⟩
    have HB7 : Hid (Below X.heap.size X x.w) := HB6.out.trans (x.h.mono HB6.out.size)
    clear la lr
    go_wp2_with fail
    go_ret2
    exact ⟨by rw [HL.out]; rfl, HBW.out.trans (HB7.out.mono HBW.out.size)⟩
end
section
open Go.RowKit
def rpC (root : List UInt8) (p : Pf) (s : Value) : Array Value := (root.map bv ++ pfL p s).toArray
def RpAt (w : World) (g : Nat) (root : List UInt8) (p : Pf) (s : Value) : Prop := w.heap[g]? = some (.cells (rpC root p s) 55 (0, 0))
theorem RpAt.below {w w' : World} {g D : Nat} {root : List UInt8} {p : Pf} {s : Value} (h : RpAt w g root p s) (hb : Below D w w') (hg : g < D) : RpAt w' g root p s := by
 unfold RpAt
 rw [hb.block g hg]
 exact h
theorem RpAt.ldR {w : World} {g : Nat} {root : List UInt8} {p : Pf} {s : Value} (h : RpAt w g root p s) (hr : root.length = 32) : ldA 47 w (.pointer (some ⟨g, 0, none⟩)) = .ok (.value (.agg (bA root))) w :=
 ldDig (range_mid (pre := []) (mid := root.map bv) (post := pfL p s) h) hr
theorem RpAt.ldP {w : World} {g : Nat} {root : List UInt8} {p : Pf} {s : Value} (h : RpAt w g root p s) (hr : root.length = 32) (hp : p.Ok) : ldA 53 w (.pointer (some ⟨g, 32, none⟩)) = .ok (.value (.agg (pfC p s))) w := by
 have h1 := range_mid (w := w) (b := g) (pre := root.map bv) (mid := pfL p s) (post := []) (by rw [List.append_nil]; exact h)
 rw [List.length_map, hr] at h1
 unfold ldA
 rw [Sem.run_bind, run_loadAt_mid (P := Tryz.prog) w g 32 53 (pfL p s) _ h1 Tryz.underlying53 rfl (by
  have := infoPf
  rw [← pfC_size hp s] at this
  simpa [pfC] using this)]
 simp [Sem.run_pure, Result.andThen_ok, pfC]
theorem RpAt.sib {w : World} {g : Nat} {root : List UInt8} {p : Pf} {s : Value} (h : RpAt w g root p s) (hr : root.length = 32) (hp : p.Ok) : w.cell? ⟨g, 130, none⟩ = some s := by
 have := cell_mid (w := w) (b := g) (pre := root.map bv ++ (.int .i64 p.kind :: .int .i64 p.dep :: (p.lf.map bv ++ p.bm.map bv))) (post := []) (v := s) (t := 55) (fr := (0, 0)) (by
  have h' : w.heap[g]? = some (.cells (rpC root p s) 55 (0, 0)) := h
  rw [h']
  simp [rpC, pfL])
 rwa [show (root.map bv ++ (Value.int .i64 p.kind :: .int .i64 p.dep :: (p.lf.map bv ++ p.bm.map bv))).length = 130 by simp [hp.lf, hp.bm, hr]] at this
end
section
open Go.RowKit
theorem rcheck18_c (n : Int) (root : List UInt8) (R : Option Addr) (cr : Nat) (c : Cl) (A B : Option Addr) (ca cb : Nat) (bs : List UInt8) (D : Option Addr) (cd : Nat) (w : World) (hR : BA w R root) (hA : BA w A c.k) (hB : BA w B c.v) (hD : BA w D bs) (hl : bs.length ≤ 1000000) :
  Calls Tryz.prog 13 #[.int .i64 n, .slice R root.length cr, .agg (clC c A ca B cb), .slice D bs.length cd] w fun e w' => e = .returned (.tuple #[.int .i64 (ckV n root c bs).1, .int .i64 (ckV n root c bs).2]) ∧ Below w.heap.size w w' := by
 obtain ⟨X, hX⟩ : ∃ X, X = w.alloc (.cells (clC c A ca B cb) 24) := ⟨_, rfl⟩
 have hbX : Below w.heap.size w X := by rw [hX]; exact Bt.one_below _ _
 have hC : ClAt X w.heap.size c A ca B cb := by rw [hX]; exact ClAt.one _ _ _ _ _ _
 have lc := hC.ld
 rw [hX] at lc
 have HX := Lib.hid hX
 have HBX := Lib.hid hbX
 have HC := Lib.hid hC
 by_cases hr : root.length = 32
 rotate_left 1
 ·have d1 : ¬ ((root.length : Int) = 32) := by omega
  have hck : ckV n root c bs = (0, 4) := by unfold ckV; rw [if_pos hr]
  have HCK := Lib.hid hck
  clear hX hbX hC hr hck hR hA hB hD hl lc
  go_enter Tryz.func13, Tryz.ntmps13
  go_wp2_with fail
  go_ret2
  exact ⟨by rw [HCK.out]; rfl, by rw [← HX.out]; exact HBX.out⟩
 have d1 : ((root.length : Int) = 32) := by omega
 have HRC := Lib.hid (rclaim18_c c A B ca cb X)
 obtain ⟨s, hs⟩ : ∃ s, s = stC c := ⟨_, rfl⟩
 rw [← hs] at HRC
 by_cases hs0 : s.2 = 0
 rotate_left 1
 ·have hck : ckV n root c bs = s := by unfold ckV; rw [if_neg (by omega), if_pos (by rw [← hs]; exact hs0), hs]
  have HCK := Lib.hid hck
  clear hX hbX hC hr hck hR hA hB hD hl hs
  go_enter Tryz.func13, Tryz.ntmps13
  go_wp2_with fail
  rw [← HX.out]
  refine HRC.out.mono ?_
  rintro _ w1 ⟨rfl, hb1⟩
  have HB1 : Hid (Below w.heap.size w w1) := HBX.out.trans (hb1.mono HBX.out.size)
  clear hb1 lc
  go_wp2_with fail
  go_ret2
  exact ⟨by rw [HCK.out]; rfl, HB1.out⟩
 have hok := stC_ok (c := c) (by rw [← hs]; exact hs0)
 have HOK := Lib.hid hok
 have hse : s = (0, 0) := by rw [hs]; exact hok.2.2
 rw [hse] at HRC
 have HRR := Lib.hid hr
 have HRA := Lib.hid hR
 have HAA := Lib.hid hA
 have HBB := Lib.hid hB
 have HDD := Lib.hid hD
 have HRD := Lib.hid (fun w h => rdecode_c bs D cd w h hl)
 obtain ⟨z, hz⟩ : ∃ z, z = decE bs := ⟨_, rfl⟩
 obtain ⟨q, hq⟩ : ∃ q, q = decQ bs := ⟨_, rfl⟩
 rw [← hz, ← hq] at HRD
 have HQO : Hid q.Ok := by show Pf.Ok _; rw [hq]; exact decQ_ok bs
 by_cases hz0 : z = 0
 rotate_left 1
 ·have hck : ckV n root c bs = (3, z) := by unfold ckV; rw [if_neg (by omega), if_neg (by rw [← hs, hs0]; decide), if_pos (by rw [← hz]; exact hz0), hz]
  have HCK := Lib.hid hck
  clear hX hbX hC hr hck hR hA hB hD hl hs hs0 hok hse hz hq
  go_enter Tryz.func13, Tryz.ntmps13
  go_wp2_with fail
  rw [← HX.out]
  refine HRC.out.mono ?_
  rintro _ w1 ⟨rfl, hb1⟩
  have HB1 : Hid (Below w.heap.size w w1) := HBX.out.trans (hb1.mono HBX.out.size)
  have HD1 := Lib.hid (HRD.out w1 (HDD.out.below HB1.out))
  clear hb1 lc
  go_wp2_with fail
  refine HD1.out.mono ?_
  rintro _ w2 ⟨A2, c2, rfl, _, _, hb2⟩
  have st2 := stPf_new w2 HQO.out zPf_ok A2 q.sib.length c2 (.slice none 0 0)
  have HB2 : Hid (Below w.heap.size w (w2.alloc (.cells (pfC q (.slice A2 q.sib.length c2)) 53))) := HB1.out.trans ((hb2.trans ((Bt.one_below _ _).mono hb2.size)).mono HB1.out.size)
  clear hb2 HD1
  go_wp2_with fail
  go_ret2
  exact ⟨by rw [HCK.out]; rfl, HB2.out⟩
 have hq0 : chkP q = 0 := by rw [hq, decQ_raw (by omega)]; exact (decE_ok (by omega)).2.2.2.2.2
 have HQ0 := Lib.hid hq0
 have hck : ckV n root c bs = lastV18 n root c q := by unfold ckV; rw [if_neg (by omega), if_neg (by rw [← hs, hs0]; decide), if_neg (by rw [← hz, hz0]; decide), hq]
 have HCK := Lib.hid hck
 subst hz0
 clear hX hbX hC hr hck hR hA hB hD hl hs hs0 hok hse hz hq hq0
 go_enter Tryz.func13, Tryz.ntmps13
 go_wp2_with fail
 rw [← HX.out]
 refine HRC.out.mono ?_
 rintro _ w1 ⟨rfl, hb1⟩
 have HB1 : Hid (Below w.heap.size w w1) := HBX.out.trans (hb1.mono HBX.out.size)
 have HC1 : Hid (ClAt w1 w.heap.size c A ca B cb) := HC.out.below hb1 (lt_of_heap HC.out)
 have HD1 := Lib.hid (HRD.out w1 (HDD.out.below HB1.out))
 clear hb1 lc
 go_wp2_with fail
 refine HD1.out.mono ?_
 rintro _ w2 ⟨A2, c2, rfl, hD2, _, hb2⟩
 obtain ⟨Y, hY⟩ : ∃ Y, Y = w2.alloc (.cells (pfC q (.slice A2 q.sib.length c2)) 53) := ⟨_, rfl⟩
 have st2 := stPf_new w2 HQO.out zPf_ok A2 q.sib.length c2 (.slice none 0 0)
 rw [← hY] at st2
 have hbY : Below w2.heap.size w2 Y := by rw [hY]; exact Bt.one_below _ _
 have h1Y : Below w1.heap.size w1 Y := hb2.trans (hbY.mono hb2.size)
 have HBY : Hid (Below w.heap.size w Y) := HB1.out.trans (h1Y.mono HB1.out.size)
 have hCY : ClAt Y w.heap.size c A ca B cb := HC1.out.below h1Y (lt_of_heap HC1.out)
 have hPY : PfAt Y w2.heap.size q (.slice A2 q.sib.length c2) := by rw [hY]; exact PfAt.one _ _ _
 have lc := fun x : Later Y => (hCY.below x.h (lt_of_heap hCY)).ld
 have lp := fun x : Later Y => (hPY.below x.h hPY.lt).ld HQO.out
 have HOF : Hid (∀ x : Later Y, Calls Tryz.prog 33 #[.slice R root.length cr] x.w fun e w' => e = .returned (.agg (bA root)) ∧ Below x.w.heap.size x.w w') := fun x => of18_c R cr root x.w (HRA.out.below (HBY.out.trans (x.h.mono HBY.out.size))) HRR.out
 have HLA : Hid (∀ x : Later Y, Calls Tryz.prog 22 #[.int .i64 n, .agg (bA root), .agg (clC c A ca B cb), .agg (pfC q (.slice A2 q.sib.length c2))] x.w fun e w' => e = .returned (.tuple #[.int .i64 (lastV18 n root c q).1, .int .i64 (lastV18 n root c q).2]) ∧ Below x.w.heap.size x.w w') := fun x =>
  rlast18_c n root c A B ca cb q A2 c2 x.w HRR.out (HAA.out.below (HBY.out.trans (x.h.mono HBY.out.size))) (HBB.out.below (HBY.out.trans (x.h.mono HBY.out.size))) HOK.out.1 HOK.out.2.1 HQO.out ((hD2.below hbY).below x.h) HQ0.out
 clear hD2 hb2 hY hbY h1Y hCY hPY HD1
 go_wp2_with fail
 refine wp_region_later (by kernel_rfl) (by kernel_rfl) ?_
 repeat (go_big_quiet_step ((first | (go_at_call 33; exact Later.call (HOF.out _)) | (go_at_call 22; exact Later.call (HLA.out _)))))
 refine wpQuiet_nil ?_
 rintro _ ⟨x, rfl⟩
 have HB3 : Hid (Below w.heap.size w x.w) := HBY.out.trans (x.h.mono HBY.out.size)
 clear lc lp st2
 go_wp2_with fail
 go_ret2
 exact ⟨by rw [HCK.out]; rfl, HB3.out⟩
end
section
open Go.RowKit
def Alive18 : Prop := ∀ w : World, Vars w → Ft.ErrVar w → Calls Tryz.prog 11 #[] w (Aye w)
theorem claims18_w (ve : VeV) (al : Alive18) (c : Cl) (A B : Option Addr) (ca cb : Nat) (W : World) (hV : Vars W) (hE : Ft.ErrVar W) :
  Calls Tryz.prog 5 #[.agg (clC c A ca B cb)] W (Aye W) := by
 obtain ⟨X, hX⟩ : ∃ X, X = W.alloc (.cells (clC c A ca B cb) 24) := ⟨_, rfl⟩
 have hbX : Below W.heap.size W X := by rw [hX]; exact Bt.one_below _ _
 have hC : ClAt X W.heap.size c A ca B cb := by rw [hX]; exact ClAt.one _ _ _ _ _ _
 have hgX : W.heap.size < X.heap.size := by rw [hX, World.size_alloc]; exact Nat.lt_succ_self _
 have lc := hC.ld
 have HC := Lib.hid (rclaim18_c c A B ca cb X)
 rw [hX] at lc
 have HGX := Lib.hid hgX
 have HBX := Lib.hid hbX
 have HQ := Lib.hid hC
 have HV := Lib.hid (hV.below hbX)
 have HE := Lib.hid (hE.below hbX)
 have HAL := Lib.hid al
 have HVE := Lib.hid ve
 obtain ⟨x, hx⟩ : ∃ x, x = (stC c).2 := ⟨_, rfl⟩
 have HX := Lib.hid hx
 rw [← hx, hX] at HC
 have HWX := Lib.hid hX
 clear hV hE al ve hx hX hbX hC hgX
 go_enter Tryz.func5, Tryz.ntmps5
 go_wp2_with fail
 refine HC.out.mono ?_
 rw [← HWX.out]
 rintro _ w1 ⟨rfl, hb1⟩
 have HB1 := Lib.hid hb1
 clear hb1 HC lc
 go_wp2_with fail
 refine (HAL.out w1 (HV.out.below HB1.out) (HE.out.below HB1.out)).mono ?_
 rintro _ w2 ⟨rfl, hb2⟩
 have HB2 := Lib.hid (keeps HB1.out hb2)
 have lc2 := (HQ.out.below HB2.out HGX.out).ld
 clear hb2
 have HC2 := HVE.out.claim w2 c A B ca cb (HE.out.below HB2.out)
 rw [← HX.out] at HC2
 have HC2 := Lib.hid HC2
 go_wp2_with fail
 refine HC2.out.mono ?_
 rintro _ w3 ⟨rfl, hb3⟩
 have HB3 := Lib.hid (HBX.out.trans ((keeps HB2.out hb3).mono HBX.out.size))
 clear hb3 HC2
 go_wp2
 go_ret
 exact ⟨rfl, HB3.out⟩
end
end Go.Proofs.YtjgdindjimbfeaaGreatDoor
