import Derived.Test.YtjgdindjimbfeaaGreatDoorAA
import Derived.Test.YtjgdindjimbfeaaGreatDoorM4
import Derived.Test.YtjgdindjimbfeaaGreatDoorHH
import Derived.Test.YtjgdindjimbfeaaGreatDoorMO
import Derived.Test.YtjgdindjimbfeaaGreatDoorM6
import Derived.Test.YtjgdindjimbfeaaGreatDoorMM
import Derived.Test.YtjgdindjimbfeaaGreatDoorMT
namespace Go.Proofs.YtjgdindjimbfeaaGreatDoor
set_option linter.unusedSimpArgs false
set_option linter.unusedVariables false
set_option maxHeartbeats 8000000
set_option maxRecDepth 100000
section
open Go.RowKit
theorem rdepths_c (p : Pf) (hp : p.Ok) (s : Value) (w : World) :
  Calls Tryz.prog 43 #[.agg (pfC p s)] w fun e w' => ∃ v, e = .returned v ∧ Bt.OwnZ w' w.heap.size v (Bt.setZ (keyF p.bm) 256) ∧ Below w.heap.size w w' := by
 have HP := Lib.hid hp
 have HR : Hid (∀ (m : Nat) w, m < 256 → Calls Tryz.prog 78 #[.agg (bA p.bm), .int .i64 m] w fun e w' => e = .returned (.int .i64 (Bt.bit (keyF p.bm) m)) ∧ Below w.heap.size w w') := fun m w hm => by
  have := bitK_c p.bm hp.bm m w
  rwa [bitK_in p.bm (by omega) (by omega), Int.toNat_natCast] at this
 clear hp
 go_enter Tryz.func43, Tryz.ntmps43
 go_wp2
 go_loopg [3, 4] 256 (fun g v j wr => ∃ m : Nat, j = .int .i64 m ∧ m ≤ 256 ∧ 256 - m ≤ g ∧ Bt.OwnZ wr (w.heap.size + 1) v (Bt.setZ (keyF p.bm) m) ∧ PfAt wr w.heap.size p s ∧ Below w.heap.size w wr)
 case atStart => exact ⟨0, rfl, by omega, by omega, Bt.OwnZ.nil _ _, PfAt.one _ _ _, Bt.one_below _ _⟩
 case round =>
  obtain ⟨m, rfl, hm, hg, hO, hA, hB⟩ := hrel
  have HO := Lib.hid hO
  have HA := Lib.hid hA
  have HB := Lib.hid hB
  by_cases hlt : m < 256
  ·have hd : decide ((m : Int) < 256) = true := by simp; omega
   have hl := hA.bm HP.out
   have hl' := hA.bmA HP.out
   have hlen := Bt.setZ_len (keyF p.bm) m
   have hc := HR.out m
   rcases Bt.bit_01 (keyF p.bm) m with hb | hb
   ·have HS := Lib.hid (Bt.setZ_no hb)
    rw [hb] at hc
    have HC := Lib.hid hc
    clear hO hA hB hb hc
    go_wp2_with fail
    refine (HC.out _ hlt).mono ?_
    rintro e w1 ⟨rfl, hb1⟩
    have HO1 := Lib.hid (HO.out.below hb1)
    have HA1 := Lib.hid (HA.out.below hb1 HA.out.lt)
    have HB1 := Lib.hid (HB.out.trans (hb1.mono HB.out.size))
    clear hb1 hl hl'
    go_wp2
    go_roundg (256 - (m + 1))
    case measure => omega
    case rel => exact ⟨m + 1, by go_num, by omega, by omega, by rw [HS.out]; exact HO1.out, HA1.out, HB1.out⟩
   ·have HS := Lib.hid (Bt.setZ_yes hb)
    rw [hb] at hc
    have HC := Lib.hid hc
    clear hO hA hB hb hc
    go_wp2_with fail
    refine (HC.out _ hlt).mono ?_
    rintro e w1 ⟨rfl, hb1⟩
    have HO1 := Lib.hid (HO.out.below hb1)
    have HA1 := Lib.hid (HA.out.below hb1 HA.out.lt)
    have HB1 := Lib.hid (HB.out.trans (hb1.mono HB.out.size))
    clear hb1 hl hl'
    go_wp2_with (at_builtin; refine Bt.wpList_pushZ rfl _ _ rfl (w.heap.size + 1) _ (Bt.setZ (keyF p.bm) m) rfl (HO1.out.below (Bt.one_below _ _)) w1.heap.size (m : Int) rfl (Bt.cell_oneZ _ _ _) (by omega) (by have := HB1.out.size; have := HA1.out.lt; simp; omega) ?_)
    intro v' w2 hO2 hB2
    have HO2 := Lib.hid hO2
    have HB2 := Lib.hid ((HB1.out.alloc HB1.out.size _).trans (hB2.mono (by omega)))
    have HA2 := Lib.hid ((HA1.out.below (Bt.one_below _ _) HA1.out.lt).below hB2 (by omega))
    clear hO2 hB2
    go_wp2
    go_roundg (256 - (m + 1))
    case measure => omega
    case rel => exact ⟨m + 1, by go_num, by omega, by omega, by rw [HS.out]; exact HO2.out, HA2.out, HB2.out⟩
  ·have hd : decide ((m : Int) < 256) = false := by simp; omega
   obtain rfl : m = 256 := by omega
   clear hO hA hB
   go_wp2
   go_ret
   exact ⟨_, rfl, HO.out.mono (by omega), HB.out⟩
theorem chk_split (p : Pf) : (p.kind ≠ 0 ∧ p.kind ≠ 1 ∧ chkP p = 7) ∨ ((p.kind = 0 ∨ p.kind = 1) ∧ (
  (p.dep < 0 ∧ chkP p = 5) ∨ (0 ≤ p.dep ∧ 256 < p.dep ∧ chkP p = 5) ∨ (0 ≤ p.dep ∧ p.dep ≤ 256 ∧ (
   (p.kind = 0 ∧ p.lf ≠ z64 ∧ chkP p = 5) ∨ ((p.kind = 1 ∨ p.lf = z64) ∧ (
    ((Bt.setZ (keyF p.bm) 256).length ≠ p.sib.length ∧ chkP p = 5) ∨ ((Bt.setZ (keyF p.bm) 256).length = p.sib.length ∧ (
     (0 < (Bt.setZ (keyF p.bm) 256).length ∧ (Bt.lastTo (keyF p.bm) 256 ≠ p.dep - 1 ∧ chkP p = 5 ∨ Bt.lastTo (keyF p.bm) 256 = p.dep - 1 ∧ chkP p = 0)) ∨
     ((Bt.setZ (keyF p.bm) 256).length = 0 ∧ (0 < p.dep ∧ chkP p = 5 ∨ p.dep = 0 ∧ chkP p = 0)))))))))) := by
 rcases chkP_cases p with ⟨h1, h2, h3⟩ | ⟨hk, h⟩
 ·exact .inl ⟨h2, h3, h1⟩
 ·refine .inr ⟨hk, ?_⟩
  have bad : ∀ {q : Prop}, (p.good → False) → chkP p = 5 := fun hn => by
   rcases h with ⟨h1, _⟩ | ⟨_, h2⟩
   ·exact h1
   ·exact (hn h2).elim
  have good : p.good → chkP p = 0 := fun hg => by
   rcases h with ⟨_, h2⟩ | ⟨h1, _⟩
   ·exact (h2 hg).elim
   ·exact h1
  by_cases d1 : p.dep < 0
  ·exact .inl ⟨d1, bad (q := True) fun hg => by have := hg.1; omega⟩
  ·by_cases d2 : 256 < p.dep
   ·exact .inr (.inl ⟨by omega, d2, bad (q := True) fun hg => by have := hg.2.1; omega⟩)
   ·refine .inr (.inr ⟨by omega, by omega, ?_⟩)
    by_cases d3 : p.kind = 0 ∧ p.lf ≠ z64
    ·exact .inl ⟨d3.1, d3.2, bad (q := True) fun hg => d3.2 (hg.2.2.1 d3.1)⟩
    ·have d3' : p.kind = 1 ∨ p.lf = z64 := by
      rcases hk with hk | hk
      ·exact .inr (Classical.byContradiction fun hn => d3 ⟨hk, hn⟩)
      ·exact .inl hk
     have g3 : p.kind = 0 → p.lf = z64 := fun h0 => by
      rcases d3' with h1 | h1
      ·omega
      ·exact h1
     refine .inr ⟨d3', ?_⟩
     by_cases d4 : (Bt.setZ (keyF p.bm) 256).length = p.sib.length
     ·refine .inr ⟨d4, ?_⟩
      rcases setZ_last (keyF p.bm) 256 with ⟨s1, s2⟩ | ⟨s1, _⟩
      ·refine .inr ⟨by rw [s1]; rfl, ?_⟩
       by_cases d5 : 0 < p.dep
       ·exact .inl ⟨d5, bad (q := True) fun hg => by have := hg.2.2.2.2; omega⟩
       ·exact .inr ⟨by omega, good ⟨by omega, by omega, g3, d4, by omega⟩⟩
      ·refine .inl ⟨s1, ?_⟩
       by_cases d5 : Bt.lastTo (keyF p.bm) 256 = p.dep - 1
       ·exact .inr ⟨d5, good ⟨by omega, by omega, g3, d4, d5⟩⟩
       ·exact .inl ⟨d5, bad (q := True) fun hg => d5 hg.2.2.2.2⟩
     ·exact .inl ⟨d4, bad (q := True) fun hg => d4 hg.2.2.2.1⟩
theorem rcheck_c (p : Pf) (hp : p.Ok) (A : Option Addr) (c : Nat) (w : World) :
  Calls Tryz.prog 21 #[.agg (pfC p (.slice A p.sib.length c))] w fun e w' => e = .returned (.int .i64 (chkP p)) ∧ Below w.heap.size w w' := by
 have HP := Lib.hid hp
 obtain ⟨L, hL⟩ : ∃ L, L = Bt.setZ (keyF p.bm) 256 := ⟨_, rfl⟩
 obtain ⟨N, hN⟩ : ∃ N, N = L.length := ⟨_, rfl⟩
 obtain ⟨Z, hZ⟩ : ∃ Z, Z = Bt.lastTo (keyF p.bm) 256 := ⟨_, rfl⟩
 have HLAST : Hid (0 < N → L[N - 1]? = some Z) := by
  rcases setZ_last (keyF p.bm) 256 with ⟨s1, _⟩ | ⟨_, s2⟩
  ·intro h; rw [hN, hL, s1] at h; cases h
  ·intro _; rw [hN, hL, hZ]; exact s2
 have HD : Hid (∀ w, Calls Tryz.prog 43 #[.agg (pfC p (.slice A p.sib.length c))] w fun e w' => ∃ A1 c1, e = .returned (.slice A1 N c1) ∧ Bt.ZA w' A1 L ∧ Below w.heap.size w w') := fun w => by
  refine (rdepths_c p hp _ w).mono ?_
  rintro e w' ⟨v, rfl, hO, hb⟩
  rw [← hL] at hO
  obtain ⟨A1, c1, rfl, hz⟩ := hO.is
  rw [← hN]
  exact ⟨A1, c1, rfl, hz, hb⟩
 have hNl : N ≤ 256 := by rw [hN, hL]; exact Bt.setZ_len _ _
 have hsp := chk_split p
 rw [← hL, ← hN, ← hZ] at hsp
 have p0 := (PfAt.one w p (.slice A p.sib.length c)).kind
 have pl := (PfAt.one w p (.slice A p.sib.length c)).ld hp
 have nl := neLeaf p.lf z64 hp.lf rfl
 clear hp hL hN hZ
 rcases hsp with ⟨k0, k1, he⟩ | ⟨hk, hsp⟩
 ·have b0 : (p.kind != 0) = true := by simpa using k0
  have b1 : (p.kind != 1) = true := by simpa using k1
  have HE := Lib.hid he
  clear k0 k1 he
  go_enter Tryz.func21, Tryz.ntmps21
  go_wp2
  go_ret
  exact ⟨Bt.ret_int (by rw [HE.out]), Bt.one_below _ _⟩
 ·have bk : ((p.kind != 0) = false ∧ (p.kind == 0) = true) ∨ ((p.kind != 0) = true ∧ (p.kind != 1) = false ∧ (p.kind == 0) = false) := by
   rcases hk with hk | hk
   ·exact .inl (by rw [hk]; exact ⟨rfl, rfl⟩)
   ·exact .inr (by rw [hk]; exact ⟨rfl, rfl, rfl⟩)
  rcases hk with k9 | k9
  ·obtain ⟨b0, b2⟩ : (p.kind != 0) = false ∧ (p.kind == 0) = true := by rw [k9]; exact ⟨rfl, rfl⟩
   clear bk
   rcases hsp with ⟨d, he⟩ | ⟨dn, d, he⟩ | ⟨dn, dm, hsp⟩
   ·have d1 : decide (p.dep < 0) = true := decide_eq_true d
    have HE := Lib.hid he
    clear d he
    go_enter Tryz.func21, Tryz.ntmps21
    go_wp2_with fail
    refine (HD.out _).mono ?_
    rintro e w1 ⟨A1, c1, rfl, hz, hb⟩
    have hs1 : w.heap.size + 1 ≤ w1.heap.size := by have := hb.size; simpa using this
    have HB := Lib.hid (((Bt.one_below _ _).trans (hb.mono (by simp))).alloc (by omega) (.cells (bA z64) 50))
    have hP := ((PfAt.one w p (.slice A p.sib.length c)).below hb (by simp)).below (Bt.one_below w1 (.cells (bA z64) 50)) (by omega)
    have l0 := hP.kind
    have l1 := hP.dep
    have l2 := hP.leaf HP.out
    have l4 := hP.sib HP.out
    have lz : ldA 50 (w1.alloc (.cells (bA z64) 50)) (.pointer (some ⟨w1.heap.size, 0, none⟩)) = .ok (.value (.agg (bA z64))) (w1.alloc (.cells (bA z64) 50)) := RowB.ldLeaf (heap_alloc_new w1 _) rfl
    clear hz hb hP hs1
    go_wp2
    go_ret
    exact ⟨Bt.ret_int (by rw [HE.out]), HB.out⟩
   ·have d1 : decide (p.dep < 0) = false := decide_eq_false (by omega)
    have d2 : decide (256 < p.dep) = true := decide_eq_true d
    have HE := Lib.hid he
    clear dn d he
    go_enter Tryz.func21, Tryz.ntmps21
    go_wp2_with fail
    refine (HD.out _).mono ?_
    rintro e w1 ⟨A1, c1, rfl, hz, hb⟩
    have hs1 : w.heap.size + 1 ≤ w1.heap.size := by have := hb.size; simpa using this
    have HB := Lib.hid (((Bt.one_below _ _).trans (hb.mono (by simp))).alloc (by omega) (.cells (bA z64) 50))
    have hP := ((PfAt.one w p (.slice A p.sib.length c)).below hb (by simp)).below (Bt.one_below w1 (.cells (bA z64) 50)) (by omega)
    have l0 := hP.kind
    have l1 := hP.dep
    have l2 := hP.leaf HP.out
    have l4 := hP.sib HP.out
    have lz : ldA 50 (w1.alloc (.cells (bA z64) 50)) (.pointer (some ⟨w1.heap.size, 0, none⟩)) = .ok (.value (.agg (bA z64))) (w1.alloc (.cells (bA z64) 50)) := RowB.ldLeaf (heap_alloc_new w1 _) rfl
    clear hz hb hP hs1
    go_wp2
    go_ret
    exact ⟨Bt.ret_int (by rw [HE.out]), HB.out⟩
   ·have d1 : decide (p.dep < 0) = false := decide_eq_false (by omega)
    have d2 : decide (256 < p.dep) = false := decide_eq_false (by omega)
    rcases hsp with ⟨k3, lf3, he⟩ | ⟨kl, hsp⟩
    ·have dz : decide (p.lf = z64) = false := decide_eq_false lf3
     have HE := Lib.hid he
     clear dn dm k3 lf3 he
     go_enter Tryz.func21, Tryz.ntmps21
     go_wp2_with fail
     refine (HD.out _).mono ?_
     rintro e w1 ⟨A1, c1, rfl, hz, hb⟩
     have hs1 : w.heap.size + 1 ≤ w1.heap.size := by have := hb.size; simpa using this
     have HB := Lib.hid (((Bt.one_below _ _).trans (hb.mono (by simp))).alloc (by omega) (.cells (bA z64) 50))
     have hP := ((PfAt.one w p (.slice A p.sib.length c)).below hb (by simp)).below (Bt.one_below w1 (.cells (bA z64) 50)) (by omega)
     have l0 := hP.kind
     have l1 := hP.dep
     have l2 := hP.leaf HP.out
     have l4 := hP.sib HP.out
     have lz : ldA 50 (w1.alloc (.cells (bA z64) 50)) (.pointer (some ⟨w1.heap.size, 0, none⟩)) = .ok (.value (.agg (bA z64))) (w1.alloc (.cells (bA z64) 50)) := RowB.ldLeaf (heap_alloc_new w1 _) rfl
     clear hz hb hP hs1
     go_wp2
     go_ret
     exact ⟨Bt.ret_int (by rw [HE.out]), HB.out⟩
    ·have dz : decide (p.lf = z64) = true := decide_eq_true (by rcases kl with kl | kl; omega; exact kl)
     clear kl
     rcases hsp with ⟨hn, he⟩ | ⟨hn, hsp⟩
     ·have d4 : ((N : Int) != (p.sib.length : Int)) = true := by simp; omega
      have HE := Lib.hid he
      clear hn he dn dm
      go_enter Tryz.func21, Tryz.ntmps21
      go_wp2_with fail
      refine (HD.out _).mono ?_
      rintro e w1 ⟨A1, c1, rfl, hz, hb⟩
      have hs1 : w.heap.size + 1 ≤ w1.heap.size := by have := hb.size; simpa using this
      have HB := Lib.hid (((Bt.one_below _ _).trans (hb.mono (by simp))).alloc (by omega) (.cells (bA z64) 50))
      have hP := ((PfAt.one w p (.slice A p.sib.length c)).below hb (by simp)).below (Bt.one_below w1 (.cells (bA z64) 50)) (by omega)
      have l0 := hP.kind
      have l1 := hP.dep
      have l2 := hP.leaf HP.out
      have l4 := hP.sib HP.out
      have lz : ldA 50 (w1.alloc (.cells (bA z64) 50)) (.pointer (some ⟨w1.heap.size, 0, none⟩)) = .ok (.value (.agg (bA z64))) (w1.alloc (.cells (bA z64) 50)) := RowB.ldLeaf (heap_alloc_new w1 _) rfl
      clear hz hb hP hs1
      go_wp2
      go_ret
      exact ⟨Bt.ret_int (by rw [HE.out]), HB.out⟩
     ·have d4 : ((N : Int) != (p.sib.length : Int)) = false := by simp; omega
      have dw : IntKind.i64.wrap (p.dep - 1) = p.dep - 1 := Bt.wrap_inr (by omega) (by omega)
      rcases hsp with ⟨npos, hsp⟩ | ⟨nz, hsp⟩
      ·have d5 : decide (0 < N) = true := decide_eq_true npos
       have d5i : decide ((0 : Int) < (N : Int)) = true := decide_eq_true (by omega)
       have dv : IntKind.i64.wrap ((N : Int) - 1) = ((N - 1 : Nat) : Int) := by rw [show ((N : Int) - 1) = ((N - 1 : Nat) : Int) by omega]; exact Bt.wrap_inr (by omega) (by omega)
       have d7 : ((N : Int) == 0) = false := by simp; omega
       have i0 : (0 : Int) ≤ ((N - 1 : Nat) : Int) := by omega
       have i1 : ((N - 1 : Nat) : Int) < (N : Int) := by omega
       rcases hsp with ⟨hne, he⟩ | ⟨heq, he⟩
       ·have d6 : (Z != p.dep - 1) = true := by simpa using hne
        have HE := Lib.hid he
        clear hn hne he dn dm
        go_enter Tryz.func21, Tryz.ntmps21
        go_wp2_with fail
        refine (HD.out _).mono ?_
        rintro e w1 ⟨A1, c1, rfl, hz, hb⟩
        have hs1 : w.heap.size + 1 ≤ w1.heap.size := by have := hb.size; simpa using this
        have HB := Lib.hid (((Bt.one_below _ _).trans (hb.mono (by simp))).alloc (by omega) (.cells (bA z64) 50))
        have hP := ((PfAt.one w p (.slice A p.sib.length c)).below hb (by simp)).below (Bt.one_below w1 (.cells (bA z64) 50)) (by omega)
        have l0 := hP.kind
        have l1 := hP.dep
        have l2 := hP.leaf HP.out
        have l4 := hP.sib HP.out
        have lz : ldA 50 (w1.alloc (.cells (bA z64) 50)) (.pointer (some ⟨w1.heap.size, 0, none⟩)) = .ok (.value (.agg (bA z64))) (w1.alloc (.cells (bA z64) 50)) := RowB.ldLeaf (heap_alloc_new w1 _) rfl
        have HZ := Lib.hid (Bt.ZA.below hz (Bt.one_below w1 (.cells (bA z64) 50)))
        have ld := fun x : Later (w1.alloc (.cells (bA z64) 50)) => (hP.below x.h hP.lt).dep
        obtain ⟨b1, o1, rfl, hcl⟩ := HZ.out (N - 1) Z (HLAST.out npos)
        have lx := fun x : Later (w1.alloc (.cells (bA z64) 50)) => (x.h.cell (lt_of_cell hcl)).trans hcl
        clear hz hb hP hs1 HZ hcl
        go_wp2_with fail
        refine wp_region_later (by kernel_rfl) (by kernel_rfl) ?_
        repeat (go_big_quiet_step (fail))
        refine wpQuiet_nil ?_
        rintro _ ⟨x, rfl⟩
        have HB2 := Lib.hid (HB.out.trans (x.h.mono HB.out.size))
        clear ld lx
        go_wp2
        go_ret
        exact ⟨Bt.ret_int (by rw [HE.out]), HB2.out⟩
       ·have d6 : (Z != p.dep - 1) = false := by simpa using heq
        have HE := Lib.hid he
        clear hn heq he dn dm
        go_enter Tryz.func21, Tryz.ntmps21
        go_wp2_with fail
        refine (HD.out _).mono ?_
        rintro e w1 ⟨A1, c1, rfl, hz, hb⟩
        have hs1 : w.heap.size + 1 ≤ w1.heap.size := by have := hb.size; simpa using this
        have HB := Lib.hid (((Bt.one_below _ _).trans (hb.mono (by simp))).alloc (by omega) (.cells (bA z64) 50))
        have hP := ((PfAt.one w p (.slice A p.sib.length c)).below hb (by simp)).below (Bt.one_below w1 (.cells (bA z64) 50)) (by omega)
        have l0 := hP.kind
        have l1 := hP.dep
        have l2 := hP.leaf HP.out
        have l4 := hP.sib HP.out
        have lz : ldA 50 (w1.alloc (.cells (bA z64) 50)) (.pointer (some ⟨w1.heap.size, 0, none⟩)) = .ok (.value (.agg (bA z64))) (w1.alloc (.cells (bA z64) 50)) := RowB.ldLeaf (heap_alloc_new w1 _) rfl
        have HZ := Lib.hid (Bt.ZA.below hz (Bt.one_below w1 (.cells (bA z64) 50)))
        have ld := fun x : Later (w1.alloc (.cells (bA z64) 50)) => (hP.below x.h hP.lt).dep
        obtain ⟨b1, o1, rfl, hcl⟩ := HZ.out (N - 1) Z (HLAST.out npos)
        have lx := fun x : Later (w1.alloc (.cells (bA z64) 50)) => (x.h.cell (lt_of_cell hcl)).trans hcl
        clear hz hb hP hs1 HZ hcl
        go_wp2_with fail
        refine wp_region_later (by kernel_rfl) (by kernel_rfl) ?_
        repeat (go_big_quiet_step (fail))
        refine wpQuiet_nil ?_
        rintro _ ⟨x, rfl⟩
        have HB2 := Lib.hid (HB.out.trans (x.h.mono HB.out.size))
        clear ld lx
        go_wp2
        go_ret
        exact ⟨Bt.ret_int (by rw [HE.out]), HB2.out⟩
      ·have d5 : decide (0 < N) = false := decide_eq_false (by omega)
       have d5i : decide ((0 : Int) < (N : Int)) = false := decide_eq_false (by omega)
       have d7 : ((N : Int) == 0) = true := by simp; omega
       rcases hsp with ⟨hd, he⟩ | ⟨hd, he⟩
       ·have d8 : decide (0 < p.dep) = true := decide_eq_true hd
        have HE := Lib.hid he
        clear hn nz hd he dn dm
        go_enter Tryz.func21, Tryz.ntmps21
        go_wp2_with fail
        refine (HD.out _).mono ?_
        rintro e w1 ⟨A1, c1, rfl, hz, hb⟩
        have hs1 : w.heap.size + 1 ≤ w1.heap.size := by have := hb.size; simpa using this
        have HB := Lib.hid (((Bt.one_below _ _).trans (hb.mono (by simp))).alloc (by omega) (.cells (bA z64) 50))
        have hP := ((PfAt.one w p (.slice A p.sib.length c)).below hb (by simp)).below (Bt.one_below w1 (.cells (bA z64) 50)) (by omega)
        have l0 := hP.kind
        have l1 := hP.dep
        have l2 := hP.leaf HP.out
        have l4 := hP.sib HP.out
        have lz : ldA 50 (w1.alloc (.cells (bA z64) 50)) (.pointer (some ⟨w1.heap.size, 0, none⟩)) = .ok (.value (.agg (bA z64))) (w1.alloc (.cells (bA z64) 50)) := RowB.ldLeaf (heap_alloc_new w1 _) rfl
        have HZ := Lib.hid (Bt.ZA.below hz (Bt.one_below w1 (.cells (bA z64) 50)))
        have ld := fun x : Later (w1.alloc (.cells (bA z64) 50)) => (hP.below x.h hP.lt).dep
        clear hz hb hP hs1 HZ
        go_wp2_with fail
        refine wp_region_later (by kernel_rfl) (by kernel_rfl) ?_
        repeat (go_big_quiet_step (fail))
        refine wpQuiet_nil ?_
        rintro _ ⟨x, rfl⟩
        have HB2 := Lib.hid (HB.out.trans (x.h.mono HB.out.size))
        clear ld
        go_wp2
        go_ret
        exact ⟨Bt.ret_int (by rw [HE.out]), HB2.out⟩
       ·have d8 : decide (0 < p.dep) = false := decide_eq_false (by omega)
        have HE := Lib.hid he
        clear hn nz hd he dn dm
        go_enter Tryz.func21, Tryz.ntmps21
        go_wp2_with fail
        refine (HD.out _).mono ?_
        rintro e w1 ⟨A1, c1, rfl, hz, hb⟩
        have hs1 : w.heap.size + 1 ≤ w1.heap.size := by have := hb.size; simpa using this
        have HB := Lib.hid (((Bt.one_below _ _).trans (hb.mono (by simp))).alloc (by omega) (.cells (bA z64) 50))
        have hP := ((PfAt.one w p (.slice A p.sib.length c)).below hb (by simp)).below (Bt.one_below w1 (.cells (bA z64) 50)) (by omega)
        have l0 := hP.kind
        have l1 := hP.dep
        have l2 := hP.leaf HP.out
        have l4 := hP.sib HP.out
        have lz : ldA 50 (w1.alloc (.cells (bA z64) 50)) (.pointer (some ⟨w1.heap.size, 0, none⟩)) = .ok (.value (.agg (bA z64))) (w1.alloc (.cells (bA z64) 50)) := RowB.ldLeaf (heap_alloc_new w1 _) rfl
        have HZ := Lib.hid (Bt.ZA.below hz (Bt.one_below w1 (.cells (bA z64) 50)))
        have ld := fun x : Later (w1.alloc (.cells (bA z64) 50)) => (hP.below x.h hP.lt).dep
        clear hz hb hP hs1 HZ
        go_wp2_with fail
        refine wp_region_later (by kernel_rfl) (by kernel_rfl) ?_
        repeat (go_big_quiet_step (fail))
        refine wpQuiet_nil ?_
        rintro _ ⟨x, rfl⟩
        have HB2 := Lib.hid (HB.out.trans (x.h.mono HB.out.size))
        clear ld
        go_wp2
        go_ret
        exact ⟨Bt.ret_int (by rw [HE.out]), HB2.out⟩
  ·obtain ⟨b0, b1, b2⟩ : (p.kind != 0) = true ∧ (p.kind != 1) = false ∧ (p.kind == 0) = false := by rw [k9]; exact ⟨rfl, rfl, rfl⟩
   clear bk
   rcases hsp with ⟨d, he⟩ | ⟨dn, d, he⟩ | ⟨dn, dm, hsp⟩
   ·have d1 : decide (p.dep < 0) = true := decide_eq_true d
    have HE := Lib.hid he
    clear d he
    go_enter Tryz.func21, Tryz.ntmps21
    go_wp2_with fail
    refine (HD.out _).mono ?_
    rintro e w1 ⟨A1, c1, rfl, hz, hb⟩
    have hs1 : w.heap.size + 1 ≤ w1.heap.size := by have := hb.size; simpa using this
    have HB := Lib.hid (((Bt.one_below _ _).trans (hb.mono (by simp))).alloc (by omega) (.cells (bA z64) 50))
    have hP := ((PfAt.one w p (.slice A p.sib.length c)).below hb (by simp)).below (Bt.one_below w1 (.cells (bA z64) 50)) (by omega)
    have l0 := hP.kind
    have l1 := hP.dep
    have l2 := hP.leaf HP.out
    have l4 := hP.sib HP.out
    have lz : ldA 50 (w1.alloc (.cells (bA z64) 50)) (.pointer (some ⟨w1.heap.size, 0, none⟩)) = .ok (.value (.agg (bA z64))) (w1.alloc (.cells (bA z64) 50)) := RowB.ldLeaf (heap_alloc_new w1 _) rfl
    clear hz hb hP hs1
    go_wp2
    go_ret
    exact ⟨Bt.ret_int (by rw [HE.out]), HB.out⟩
   ·have d1 : decide (p.dep < 0) = false := decide_eq_false (by omega)
    have d2 : decide (256 < p.dep) = true := decide_eq_true d
    have HE := Lib.hid he
    clear dn d he
    go_enter Tryz.func21, Tryz.ntmps21
    go_wp2_with fail
    refine (HD.out _).mono ?_
    rintro e w1 ⟨A1, c1, rfl, hz, hb⟩
    have hs1 : w.heap.size + 1 ≤ w1.heap.size := by have := hb.size; simpa using this
    have HB := Lib.hid (((Bt.one_below _ _).trans (hb.mono (by simp))).alloc (by omega) (.cells (bA z64) 50))
    have hP := ((PfAt.one w p (.slice A p.sib.length c)).below hb (by simp)).below (Bt.one_below w1 (.cells (bA z64) 50)) (by omega)
    have l0 := hP.kind
    have l1 := hP.dep
    have l2 := hP.leaf HP.out
    have l4 := hP.sib HP.out
    have lz : ldA 50 (w1.alloc (.cells (bA z64) 50)) (.pointer (some ⟨w1.heap.size, 0, none⟩)) = .ok (.value (.agg (bA z64))) (w1.alloc (.cells (bA z64) 50)) := RowB.ldLeaf (heap_alloc_new w1 _) rfl
    clear hz hb hP hs1
    go_wp2
    go_ret
    exact ⟨Bt.ret_int (by rw [HE.out]), HB.out⟩
   ·have d1 : decide (p.dep < 0) = false := decide_eq_false (by omega)
    have d2 : decide (256 < p.dep) = false := decide_eq_false (by omega)
    rcases hsp with ⟨k3, lf3, he⟩ | ⟨kl, hsp⟩
    ·omega
    ·skip
     clear kl
     rcases hsp with ⟨hn, he⟩ | ⟨hn, hsp⟩
     ·have d4 : ((N : Int) != (p.sib.length : Int)) = true := by simp; omega
      have HE := Lib.hid he
      clear hn he dn dm
      go_enter Tryz.func21, Tryz.ntmps21
      go_wp2_with fail
      refine (HD.out _).mono ?_
      rintro e w1 ⟨A1, c1, rfl, hz, hb⟩
      have hs1 : w.heap.size + 1 ≤ w1.heap.size := by have := hb.size; simpa using this
      have HB := Lib.hid (((Bt.one_below _ _).trans (hb.mono (by simp))).alloc (by omega) (.cells (bA z64) 50))
      have hP := ((PfAt.one w p (.slice A p.sib.length c)).below hb (by simp)).below (Bt.one_below w1 (.cells (bA z64) 50)) (by omega)
      have l0 := hP.kind
      have l1 := hP.dep
      have l2 := hP.leaf HP.out
      have l4 := hP.sib HP.out
      have lz : ldA 50 (w1.alloc (.cells (bA z64) 50)) (.pointer (some ⟨w1.heap.size, 0, none⟩)) = .ok (.value (.agg (bA z64))) (w1.alloc (.cells (bA z64) 50)) := RowB.ldLeaf (heap_alloc_new w1 _) rfl
      clear hz hb hP hs1
      go_wp2
      go_ret
      exact ⟨Bt.ret_int (by rw [HE.out]), HB.out⟩
     ·have d4 : ((N : Int) != (p.sib.length : Int)) = false := by simp; omega
      have dw : IntKind.i64.wrap (p.dep - 1) = p.dep - 1 := Bt.wrap_inr (by omega) (by omega)
      rcases hsp with ⟨npos, hsp⟩ | ⟨nz, hsp⟩
      ·have d5 : decide (0 < N) = true := decide_eq_true npos
       have d5i : decide ((0 : Int) < (N : Int)) = true := decide_eq_true (by omega)
       have dv : IntKind.i64.wrap ((N : Int) - 1) = ((N - 1 : Nat) : Int) := by rw [show ((N : Int) - 1) = ((N - 1 : Nat) : Int) by omega]; exact Bt.wrap_inr (by omega) (by omega)
       have d7 : ((N : Int) == 0) = false := by simp; omega
       have i0 : (0 : Int) ≤ ((N - 1 : Nat) : Int) := by omega
       have i1 : ((N - 1 : Nat) : Int) < (N : Int) := by omega
       rcases hsp with ⟨hne, he⟩ | ⟨heq, he⟩
       ·have d6 : (Z != p.dep - 1) = true := by simpa using hne
        have HE := Lib.hid he
        clear hn hne he dn dm
        go_enter Tryz.func21, Tryz.ntmps21
        go_wp2_with fail
        refine (HD.out _).mono ?_
        rintro e w1 ⟨A1, c1, rfl, hz, hb⟩
        have hs1 : w.heap.size + 1 ≤ w1.heap.size := by have := hb.size; simpa using this
        have HB := Lib.hid (((Bt.one_below _ _).trans (hb.mono (by simp))).alloc (by omega) (.cells (bA z64) 50))
        have hP := ((PfAt.one w p (.slice A p.sib.length c)).below hb (by simp)).below (Bt.one_below w1 (.cells (bA z64) 50)) (by omega)
        have l0 := hP.kind
        have l1 := hP.dep
        have l2 := hP.leaf HP.out
        have l4 := hP.sib HP.out
        have lz : ldA 50 (w1.alloc (.cells (bA z64) 50)) (.pointer (some ⟨w1.heap.size, 0, none⟩)) = .ok (.value (.agg (bA z64))) (w1.alloc (.cells (bA z64) 50)) := RowB.ldLeaf (heap_alloc_new w1 _) rfl
        have HZ := Lib.hid (Bt.ZA.below hz (Bt.one_below w1 (.cells (bA z64) 50)))
        have ld := fun x : Later (w1.alloc (.cells (bA z64) 50)) => (hP.below x.h hP.lt).dep
        obtain ⟨b1, o1, rfl, hcl⟩ := HZ.out (N - 1) Z (HLAST.out npos)
        have lx := fun x : Later (w1.alloc (.cells (bA z64) 50)) => (x.h.cell (lt_of_cell hcl)).trans hcl
        clear hz hb hP hs1 HZ hcl
        go_wp2_with fail
        refine wp_region_later (by kernel_rfl) (by kernel_rfl) ?_
        repeat (go_big_quiet_step (fail))
        refine wpQuiet_nil ?_
        rintro _ ⟨x, rfl⟩
        have HB2 := Lib.hid (HB.out.trans (x.h.mono HB.out.size))
        clear ld lx
        go_wp2
        go_ret
        exact ⟨Bt.ret_int (by rw [HE.out]), HB2.out⟩
       ·have d6 : (Z != p.dep - 1) = false := by simpa using heq
        have HE := Lib.hid he
        clear hn heq he dn dm
        go_enter Tryz.func21, Tryz.ntmps21
        go_wp2_with fail
        refine (HD.out _).mono ?_
        rintro e w1 ⟨A1, c1, rfl, hz, hb⟩
        have hs1 : w.heap.size + 1 ≤ w1.heap.size := by have := hb.size; simpa using this
        have HB := Lib.hid (((Bt.one_below _ _).trans (hb.mono (by simp))).alloc (by omega) (.cells (bA z64) 50))
        have hP := ((PfAt.one w p (.slice A p.sib.length c)).below hb (by simp)).below (Bt.one_below w1 (.cells (bA z64) 50)) (by omega)
        have l0 := hP.kind
        have l1 := hP.dep
        have l2 := hP.leaf HP.out
        have l4 := hP.sib HP.out
        have lz : ldA 50 (w1.alloc (.cells (bA z64) 50)) (.pointer (some ⟨w1.heap.size, 0, none⟩)) = .ok (.value (.agg (bA z64))) (w1.alloc (.cells (bA z64) 50)) := RowB.ldLeaf (heap_alloc_new w1 _) rfl
        have HZ := Lib.hid (Bt.ZA.below hz (Bt.one_below w1 (.cells (bA z64) 50)))
        have ld := fun x : Later (w1.alloc (.cells (bA z64) 50)) => (hP.below x.h hP.lt).dep
        obtain ⟨b1, o1, rfl, hcl⟩ := HZ.out (N - 1) Z (HLAST.out npos)
        have lx := fun x : Later (w1.alloc (.cells (bA z64) 50)) => (x.h.cell (lt_of_cell hcl)).trans hcl
        clear hz hb hP hs1 HZ hcl
        go_wp2_with fail
        refine wp_region_later (by kernel_rfl) (by kernel_rfl) ?_
        repeat (go_big_quiet_step (fail))
        refine wpQuiet_nil ?_
        rintro _ ⟨x, rfl⟩
        have HB2 := Lib.hid (HB.out.trans (x.h.mono HB.out.size))
        clear ld lx
        go_wp2
        go_ret
        exact ⟨Bt.ret_int (by rw [HE.out]), HB2.out⟩
      ·have d5 : decide (0 < N) = false := decide_eq_false (by omega)
       have d5i : decide ((0 : Int) < (N : Int)) = false := decide_eq_false (by omega)
       have d7 : ((N : Int) == 0) = true := by simp; omega
       rcases hsp with ⟨hd, he⟩ | ⟨hd, he⟩
       ·have d8 : decide (0 < p.dep) = true := decide_eq_true hd
        have HE := Lib.hid he
        clear hn nz hd he dn dm
        go_enter Tryz.func21, Tryz.ntmps21
        go_wp2_with fail
        refine (HD.out _).mono ?_
        rintro e w1 ⟨A1, c1, rfl, hz, hb⟩
        have hs1 : w.heap.size + 1 ≤ w1.heap.size := by have := hb.size; simpa using this
        have HB := Lib.hid (((Bt.one_below _ _).trans (hb.mono (by simp))).alloc (by omega) (.cells (bA z64) 50))
        have hP := ((PfAt.one w p (.slice A p.sib.length c)).below hb (by simp)).below (Bt.one_below w1 (.cells (bA z64) 50)) (by omega)
        have l0 := hP.kind
        have l1 := hP.dep
        have l2 := hP.leaf HP.out
        have l4 := hP.sib HP.out
        have lz : ldA 50 (w1.alloc (.cells (bA z64) 50)) (.pointer (some ⟨w1.heap.size, 0, none⟩)) = .ok (.value (.agg (bA z64))) (w1.alloc (.cells (bA z64) 50)) := RowB.ldLeaf (heap_alloc_new w1 _) rfl
        have HZ := Lib.hid (Bt.ZA.below hz (Bt.one_below w1 (.cells (bA z64) 50)))
        have ld := fun x : Later (w1.alloc (.cells (bA z64) 50)) => (hP.below x.h hP.lt).dep
        clear hz hb hP hs1 HZ
        go_wp2_with fail
        refine wp_region_later (by kernel_rfl) (by kernel_rfl) ?_
        repeat (go_big_quiet_step (fail))
        refine wpQuiet_nil ?_
        rintro _ ⟨x, rfl⟩
        have HB2 := Lib.hid (HB.out.trans (x.h.mono HB.out.size))
        clear ld
        go_wp2
        go_ret
        exact ⟨Bt.ret_int (by rw [HE.out]), HB2.out⟩
       ·have d8 : decide (0 < p.dep) = false := decide_eq_false (by omega)
        have HE := Lib.hid he
        clear hn nz hd he dn dm
        go_enter Tryz.func21, Tryz.ntmps21
        go_wp2_with fail
        refine (HD.out _).mono ?_
        rintro e w1 ⟨A1, c1, rfl, hz, hb⟩
        have hs1 : w.heap.size + 1 ≤ w1.heap.size := by have := hb.size; simpa using this
        have HB := Lib.hid (((Bt.one_below _ _).trans (hb.mono (by simp))).alloc (by omega) (.cells (bA z64) 50))
        have hP := ((PfAt.one w p (.slice A p.sib.length c)).below hb (by simp)).below (Bt.one_below w1 (.cells (bA z64) 50)) (by omega)
        have l0 := hP.kind
        have l1 := hP.dep
        have l2 := hP.leaf HP.out
        have l4 := hP.sib HP.out
        have lz : ldA 50 (w1.alloc (.cells (bA z64) 50)) (.pointer (some ⟨w1.heap.size, 0, none⟩)) = .ok (.value (.agg (bA z64))) (w1.alloc (.cells (bA z64) 50)) := RowB.ldLeaf (heap_alloc_new w1 _) rfl
        have HZ := Lib.hid (Bt.ZA.below hz (Bt.one_below w1 (.cells (bA z64) 50)))
        have ld := fun x : Later (w1.alloc (.cells (bA z64) 50)) => (hP.below x.h hP.lt).dep
        clear hz hb hP hs1 HZ
        go_wp2_with fail
        refine wp_region_later (by kernel_rfl) (by kernel_rfl) ?_
        repeat (go_big_quiet_step (fail))
        refine wpQuiet_nil ?_
        rintro _ ⟨x, rfl⟩
        have HB2 := Lib.hid (HB.out.trans (x.h.mono HB.out.size))
        clear ld
        go_wp2
        go_ret
        exact ⟨Bt.ret_int (by rw [HE.out]), HB2.out⟩
end
section
open Go.RowKit
theorem ret_b15 {a b : Bool} (h : a = b) : Ending.returned (.bool a) = .returned (.bool b) := by rw [h]
theorem three_below (w : World) (o p q : Obj) : Below w.heap.size w (((w.alloc o).alloc p).alloc q) := ((Bt.two_below w o p).alloc (by simp; omega) q)
theorem rsup_yes (p : Pf) (hp : p.Ok) (s : Value) (k v : List UInt8) (hk : k.length = 32) (hv : v.length = 32) (w : World) :
  Calls Tryz.prog 44 #[.agg (pfC p s), .agg (bA k), .agg (bA v), .bool true] w fun e w' => e = .returned (.bool (supYes p k v)) ∧ Below w.heap.size w w' := by
 obtain ⟨X, hX⟩ : ∃ X, X = ((w.alloc (.cells (pfC p s) 53)).alloc (.cells (bA k) 48)).alloc (.cells (bA v) 47) := ⟨_, rfl⟩
 have hB : Below w.heap.size w X := by rw [hX]; exact three_below _ _ _ _
 have hP : PfAt X w.heap.size p s := by
  rw [hX]
  exact ((PfAt.one w p s).below (Bt.one_below _ _) (by simp)).below (Bt.one_below _ _) (by simp; omega)
 have hK : X.heap[w.heap.size + 1]? = some (.cells (bA k) 48 (0, 0)) := by
  rw [hX, Below.heap_alloc _ _ _ (by simp)]
  exact heap_alloc2_new w _ _
 have hV : X.heap[w.heap.size + 1 + 1]? = some (.cells (bA v) 47 (0, 0)) := by
  have := heap_alloc_new ((w.alloc (.cells (pfC p s) 53)).alloc (.cells (bA k) 48)) (.cells (bA v) 47)
  rw [hX]
  simpa using this
 have l0 := hP.kind
 have lk := hP.lkey hp
 have lv := hP.lval hp
 have l2 : ldA 48 X (.pointer (some ⟨w.heap.size + 1, 0, none⟩)) = .ok (.value (.agg (bA k))) X := RowB.ldKey hK hk
 have l3 : ldA 47 X (.pointer (some ⟨w.heap.size + 1 + 1, 0, none⟩)) = .ok (.value (.agg (bA v))) X := RowB.ldDig hV hv
 have ek := fun x y w => eqKey (p.lf.take 32) k (by rw [List.length_take, hp.lf]; rfl) hk x y w
 have ev := fun x y w => eqDig (p.lf.drop 32) v (by rw [List.length_drop, hp.lf]) hv x y w
 have HB := Lib.hid hB
 clear hB hP hK hV hp
 subst hX
 by_cases h1 : p.kind = 1
 ·have b1 : (p.kind == 1) = true := by simpa using h1
  by_cases h2 : p.lf.take 32 = k
  ·have b2 : decide (p.lf.take 32 = k) = true := decide_eq_true h2
   have HE : Hid (supYes p k v = decide (p.lf.drop 32 = v)) := by
    show supYes p k v = _
    unfold supYes
    by_cases h3 : p.lf.drop 32 = v
    ·rw [decide_eq_true h3]; exact decide_eq_true ⟨h1, h2, h3⟩
    ·rw [decide_eq_false h3]; exact decide_eq_false fun h => h3 h.2.2
   clear h1 h2
   go_enter Tryz.func44, Tryz.ntmps44
   go_wp2
   go_ret
   exact ⟨ret_b15 HE.out.symm, HB.out⟩
  ·have b2 : decide (p.lf.take 32 = k) = false := decide_eq_false h2
   have HE : Hid (supYes p k v = false) := decide_eq_false fun h => h2 h.2.1
   clear h1 h2
   go_enter Tryz.func44, Tryz.ntmps44
   go_wp2
   go_ret
   exact ⟨ret_b15 HE.out.symm, HB.out⟩
 ·have b1 : (p.kind == 1) = false := by simpa using h1
  have HE : Hid (supYes p k v = false) := decide_eq_false fun h => h1 h.1
  clear h1
  go_enter Tryz.func44, Tryz.ntmps44
  go_wp2
  go_ret
  exact ⟨ret_b15 HE.out.symm, HB.out⟩
theorem rsup_no (p : Pf) (hp : p.Ok) (s : Value) (k v : List UInt8) (hk : k.length = 32) (_hv : v.length = 32) (w : World) :
  Calls Tryz.prog 44 #[.agg (pfC p s), .agg (bA k), .agg (bA v), .bool false] w fun e w' => e = .returned (.bool (supNo p k)) ∧ Below w.heap.size w w' := by
 obtain ⟨X, hX⟩ : ∃ X, X = ((w.alloc (.cells (pfC p s) 53)).alloc (.cells (bA k) 48)).alloc (.cells (bA v) 47) := ⟨_, rfl⟩
 have hB : Below w.heap.size w X := by rw [hX]; exact three_below _ _ _ _
 have hP : PfAt X w.heap.size p s := by
  rw [hX]
  exact ((PfAt.one w p s).below (Bt.one_below _ _) (by simp)).below (Bt.one_below _ _) (by simp; omega)
 have hK : X.heap[w.heap.size + 1]? = some (.cells (bA k) 48 (0, 0)) := by
  rw [hX, Below.heap_alloc _ _ _ (by simp)]
  exact heap_alloc2_new w _ _
 obtain ⟨q, hq⟩ : ∃ q, q = p.lf.take 32 := ⟨_, rfl⟩
 have hql : q.length = 32 := by rw [hq, List.length_take, hp.lf]; rfl
 have l0 := fun x : Later X => (hP.below x.h hP.lt).kind
 have l1 := fun x : Later X => (hP.below x.h hP.lt).dep
 have lk := fun x : Later X => (hP.below x.h hP.lt).lkey hp
 rw [← hq] at lk
 have l2 := fun x : Later X => show ldA 48 x.w (.pointer (some ⟨w.heap.size + 1, 0, none⟩)) = .ok (.value (.agg (bA k))) x.w from RowB.ldKey (x.block hK) hk
 have ek := fun x y w => neKey q k hql hk x y w
 have HB := Lib.hid hB
 have HX := Lib.hid hX
 have HSUP : Hid (supNo p k = decide (p.kind = 0 ∨ (p.kind = 1 ∧ q ≠ k ∧ p.dep ≤ comK q k))) := by show _ = _; rw [hq]; rfl
 have HCC : Hid (∀ w, Calls Tryz.prog 79 #[.agg (bA q), .agg (bA k)] w fun e w' => e = .returned (.int .i64 (comK q k)) ∧ Below w.heap.size w w') := fun w => comK_c q k hql hk w
 obtain ⟨m, hm⟩ : ∃ m, m = comK q k := ⟨_, rfl⟩
 rw [← hm] at HSUP HCC
 clear hB hX hP hK hp hm hq
 by_cases h0 : p.kind = 0
 ·have b0 : (p.kind == 0) = true := by simpa using h0
  have HE : Hid (supNo p k = true) := by show _ = _; rw [HSUP.out]; exact decide_eq_true (.inl h0)
  clear h0 HSUP
  go_enter Tryz.func44, Tryz.ntmps44
  go_wp2_with fail
  rw [← HX.out]
  refine wp_region_later (by kernel_rfl) (by kernel_rfl) ?_
  repeat (go_big_quiet_step ((go_at_call 79; exact Later.call (HCC.out _))))
  refine wpQuiet_nil ?_
  rintro _ ⟨x, rfl⟩
  have HB2 := Lib.hid (HB.out.trans (x.h.mono HB.out.size))
  clear l0 l1 lk l2 ek
  go_wp2
  go_ret
  exact ⟨ret_b15 HE.out.symm, HB2.out⟩
 ·have b0 : (p.kind == 0) = false := by simpa using h0
  by_cases h1 : p.kind = 1
  ·have b1 : (p.kind == 1) = true := by simpa using h1
   by_cases h2 : q = k
   ·have b2 : decide (q = k) = true := decide_eq_true h2
    have HE : Hid (supNo p k = false) := by show _ = _; rw [HSUP.out]; exact decide_eq_false fun h => h.elim h0 fun h => h.2.1 h2
    clear h0 h1 h2 HSUP
    go_enter Tryz.func44, Tryz.ntmps44
    go_wp2_with fail
    rw [← HX.out]
    refine wp_region_later (by kernel_rfl) (by kernel_rfl) ?_
    repeat (go_big_quiet_step ((go_at_call 79; exact Later.call (HCC.out _))))
    refine wpQuiet_nil ?_
    rintro _ ⟨x, rfl⟩
    have HB2 := Lib.hid (HB.out.trans (x.h.mono HB.out.size))
    clear l0 l1 lk l2 ek
    go_wp2
    go_ret
    exact ⟨ret_b15 HE.out.symm, HB2.out⟩
   ·have b2 : decide (q = k) = false := decide_eq_false h2
    obtain ⟨z, hz⟩ : ∃ z, z = decide (p.dep ≤ (m : Int)) := ⟨_, rfl⟩
    have HE : Hid (supNo p k = z) := by
     show _ = _
     rw [HSUP.out, hz]
     by_cases h3 : p.dep ≤ (m : Int)
     ·rw [decide_eq_true h3]; exact decide_eq_true (.inr ⟨h1, h2, h3⟩)
     ·rw [decide_eq_false h3]; exact decide_eq_false fun h => h.elim h0 fun h => h3 h.2.2
    have b3 : decide (p.dep ≤ (m : Int)) = z := hz.symm
    clear h0 h1 h2 HSUP hz
    go_enter Tryz.func44, Tryz.ntmps44
    go_wp2_with fail
    rw [← HX.out]
    refine wp_region_later (by kernel_rfl) (by kernel_rfl) ?_
    repeat (go_big_quiet_step ((go_at_call 79; exact Later.call (HCC.out _))))
    refine wpQuiet_nil ?_
    rintro _ ⟨x, rfl⟩
    have HB2 := Lib.hid (HB.out.trans (x.h.mono HB.out.size))
    clear l0 l1 lk l2 ek
    go_wp2
    go_ret
    exact ⟨ret_b15 HE.out.symm, HB2.out⟩
  ·have b1 : (p.kind == 1) = false := by simpa using h1
   have HE : Hid (supNo p k = false) := by show _ = _; rw [HSUP.out]; exact decide_eq_false fun h => h.elim h0 fun h => h1 h.1
   clear h0 h1 HSUP
   go_enter Tryz.func44, Tryz.ntmps44
   go_wp2_with fail
   rw [← HX.out]
   refine wp_region_later (by kernel_rfl) (by kernel_rfl) ?_
   repeat (go_big_quiet_step ((go_at_call 79; exact Later.call (HCC.out _))))
   refine wpQuiet_nil ?_
   rintro _ ⟨x, rfl⟩
   have HB2 := Lib.hid (HB.out.trans (x.h.mono HB.out.size))
   clear l0 l1 lk l2 ek
   go_wp2
   go_ret
   exact ⟨ret_b15 HE.out.symm, HB2.out⟩
end
section
open Go.RowKit
def eqP (p q : Pf) : Bool := decide (p.kind = q.kind ∧ p.dep = q.dep ∧ p.lf = q.lf ∧ p.bm = q.bm ∧ p.sib = q.sib)
theorem rexpand_c (n : Int) (p : Pf) (hp : p.Ok) (A : Option Addr) (c : Nat) (w : World) (hA : DS w A p.sib) (hg : p.good) :
  Calls Tryz.prog 115 #[.int .i64 n, .agg (pfC p (.slice A p.sib.length c))] w fun e w' => ∃ v, e = .returned v ∧ OwnD w' w.heap.size v (expL n p.bm p.sib p.dep.toNat) ∧ Below w.heap.size w w' := by
 obtain ⟨D, hD⟩ : ∃ D : Nat, p.dep = D := ⟨p.dep.toNat, by have := hg.1; omega⟩
 have hD2 : D ≤ 256 := by have := hg.2.1; omega
 have HD := Lib.hid hD
 have HG := Lib.hid hg.2.2.2.1
 have HP := Lib.hid hp
 have HA := Lib.hid hA
 have HR : Hid (∀ (m : Nat) w, m < 256 → Calls Tryz.prog 78 #[.agg (bA p.bm), .int .i64 m] w fun e w' => e = .returned (.int .i64 (Bt.bit (keyF p.bm) m)) ∧ Below w.heap.size w w') := fun m w hm => by
  have := bitK_c p.bm hp.bm m w
  rwa [bitK_in p.bm (by omega) (by omega), Int.toNat_natCast] at this
 have HEM : Hid (∀ w, Calls Tryz.prog 30 #[.int .i64 n] w fun e w' => e = .returned (.agg (bA (digL n emptyL))) ∧ Below w.heap.size w w') := fun w => rempty_c n w
 have bse := bsD_one (digL n emptyL) (dig_len _ _)
 rw [show p.dep.toNat = D by omega]
 clear hp hA hg hD
 go_enter Tryz.func115, Tryz.ntmps115
 go_wp2
 go_loopg [5, 6, 7] D (fun g v x j wr => ∃ m : Nat, j = .int .i64 m ∧ m ≤ D ∧ D - m ≤ g ∧ OwnD wr (w.heap.size + 1) v (expL n p.bm p.sib m) ∧ x = .int .i64 (cntB p.bm m) ∧ PfAt wr w.heap.size p (.slice A p.sib.length c) ∧ Below w.heap.size w wr)
 case atStart => exact ⟨0, rfl, by omega, by omega, OwnD.nil _ _, rfl, PfAt.one _ _ _, Bt.one_below _ _⟩
 case round =>
  obtain ⟨m, rfl, hm, hg, hO, rfl, hA, hB⟩ := hrel
  have HO := Lib.hid hO
  have HAW := Lib.hid hA
  have HB := Lib.hid hB
  have a1 := hA.dep
  rw [HD.out] at a1
  by_cases hlt : m < D
  ·have hd : decide (m < D) = true := decide_eq_true hlt
   have hd' : decide ((m : Int) < (D : Int)) = true := decide_eq_true (by omega)
   have hl := hA.bm HP.out
   have hl' := hA.bmA HP.out
   have hlen := expL_len n p.bm p.sib m
   have hc := HR.out m
   have hcm := Bt.setZ_len (keyF p.bm) m
   have hcb : cntB p.bm m ≤ 256 := by unfold cntB; omega
   have h256 : m < 256 := by omega
   rcases Bt.bit_01 (keyF p.bm) m with hb | hb
   ·have HS : Hid (expL n p.bm p.sib (m + 1) = expL n p.bm p.sib m ++ [digL n emptyL]) := by
     show _ ++ [if _ then _ else _] = _
     rw [if_neg (by omega)]
    have HCS : Hid (cntB p.bm (m + 1) = cntB p.bm m) := by show _ = _; rw [cntB_succ, if_neg (by omega)]
    rw [hb] at hc
    have HC := Lib.hid hc
    clear hO hA hB hb hc
    go_wp2_with fail
    refine (HC.out _ h256).mono ?_
    rintro e w1 ⟨rfl, hb1⟩
    have HO1 := Lib.hid (HO.out.below hb1)
    have HA1 := Lib.hid (HAW.out.below hb1 HAW.out.lt)
    have HB1 := Lib.hid (HB.out.trans (hb1.mono HB.out.size))
    clear hb1 hl hl' a1
    go_wp2_with fail
    refine (HEM.out _).mono ?_
    rintro e w2 ⟨rfl, hb1⟩
    have HO2 := Lib.hid (HO1.out.below hb1)
    have HA2 := Lib.hid (HA1.out.below hb1 HA1.out.lt)
    have HB2 := Lib.hid (HB1.out.trans (hb1.mono HB1.out.size))
    clear hb1
    go_wp2_with (at_builtin; refine wpList_pushD rfl _ _ rfl (w.heap.size + 1) _ (expL n p.bm p.sib m) rfl (HO2.out.below (Bt.one_below _ _)) w2.heap.size (digL n emptyL) (dig_len _ _) rfl (dig_made _ _ _) (by omega) (by have := HB2.out.size; have := HA2.out.lt; simp; omega) ?_)
    intro v' w3 hO3 hG3
    have HO3 := Lib.hid hO3
    have hB3 := (Below.refl _ _).grown hG3.by_ (by have := HA2.out.lt; simp; omega) (OwnD.ge HO2.out)
    have HB3 := Lib.hid ((HB2.out.alloc HB2.out.size _).trans (hB3.mono (by omega)))
    have HA3 := Lib.hid ((HA2.out.below (Bt.one_below _ _) HA2.out.lt).below hB3 (by omega))
    clear hO3 hG3 hB3
    go_wp2
    go_roundg (D - (m + 1))
    case measure => omega
    case rel => exact ⟨m + 1, by go_num, by omega, by omega, by rw [HS.out]; exact HO3.out, by rw [HCS.out], HA3.out, HB3.out⟩
   ·have hlt3 : cntB p.bm m < p.sib.length := by rw [← HG.out]; exact cntB_lt h256 hb
    obtain ⟨x, hx⟩ : ∃ x, p.sib[cntB p.bm m]? = some x := ⟨_, List.getElem?_eq_getElem hlt3⟩
    have HS : Hid (expL n p.bm p.sib (m + 1) = expL n p.bm p.sib m ++ [x]) := by
     show _ ++ [if _ then _ else _] = _
     rw [if_pos hb, List.getD_eq_getElem?_getD, hx]; rfl
    have HCS : Hid (cntB p.bm (m + 1) = cntB p.bm m + 1) := by show _ = _; rw [cntB_succ, if_pos hb]
    obtain ⟨q, hq⟩ : ∃ q, q = cntB p.bm m := ⟨_, rfl⟩
    rw [← hq] at hlt3 hx HCS hcb ⊢
    obtain ⟨hxl, b1, o1, rfl, r1⟩ := HA.out q x hx
    have HX := Lib.hid hx
    have bsx := bsD_one x hxl
    have HXL := Lib.hid hxl
    have HR1 := Lib.hid r1
    have p0 : (0 : Int) ≤ (q : Int) := by omega
    have p1 : (q : Int) < (p.sib.length : Int) := by omega
    rw [hb] at hc
    have HC := Lib.hid hc
    clear hO hA hB hb hc hx hxl r1 hq
    go_wp2_with fail
    refine (HC.out _ h256).mono ?_
    rintro e w1 ⟨rfl, hb1⟩
    have HO1 := Lib.hid (HO.out.below hb1)
    have HA1 := Lib.hid (HAW.out.below hb1 HAW.out.lt)
    have HB1 := Lib.hid (HB.out.trans (hb1.mono HB.out.size))
    have s4 := HA1.out.sib HP.out
    have lx := ldDig (range_below HR1.out HB1.out) HXL.out
    clear hb1 hl hl' a1
    go_wp2_with (at_builtin; refine wpList_pushD rfl _ _ rfl (w.heap.size + 1) _ (expL n p.bm p.sib m) rfl (HO1.out.below (Bt.one_below _ _)) w1.heap.size x HXL.out rfl (dig_made _ _ _) (by omega) (by have := HB1.out.size; have := HA1.out.lt; simp; omega) ?_)
    intro v' w3 hO3 hG3
    have HO3 := Lib.hid hO3
    have hB3 := (Below.refl _ _).grown hG3.by_ (by have := HA1.out.lt; simp; omega) (OwnD.ge HO1.out)
    have HB3 := Lib.hid ((HB1.out.alloc HB1.out.size _).trans (hB3.mono (by omega)))
    have HA3 := Lib.hid ((HA1.out.below (Bt.one_below _ _) HA1.out.lt).below hB3 (by omega))
    clear hO3 hG3 hB3 s4 lx
    go_wp2
    go_roundg (D - (m + 1))
    case measure => omega
    case rel => exact ⟨m + 1, by go_num, by omega, by omega, by rw [HS.out]; exact HO3.out, by rw [HCS.out]; go_num, HA3.out, HB3.out⟩
  ·have hd : decide (m < D) = false := decide_eq_false hlt
   have hd' : decide ((m : Int) < (D : Int)) = false := decide_eq_false (by omega)
   obtain rfl : m = D := by omega
   clear hO hA hB
   go_wp2
   go_ret
   exact ⟨_, rfl, HO.out.mono (by omega), HB.out⟩
end
section
open Go.RowKit
def NewD (w' : World) (B : Nat) (A : Option Addr) (c : Nat) (ds : List (List UInt8)) : Prop := ds.length ≤ c ∧ (ds = [] ∨ OwnD w' B (.slice A ds.length c) ds)
theorem NewD.ds {w' : World} {B : Nat} {A : Option Addr} {c : Nat} {ds : List (List UInt8)} (h : NewD w' B A c ds) (hl : ∀ s ∈ ds, s.length = 32) : DS w' A ds := by
 rcases h.2 with rfl | h
 ·exact DS.nil _ _
 ·obtain ⟨A', c', e, h1, _⟩ := h.ds hl
  cases e
  exact h1
structure PfV (M : World → Int → Tv → Prop) : Prop where
 prove : ∀ (w : World) (b : Nat) (n : Int) (c : Nat) (l : List Ent) (T : Tv) (k : List UInt8), Hs w b n c → c ≤ 500000 → Vars w → M w n T → IsMap l T → k.length = 32 →
  Calls Tryz.prog 28 #[ptr b, T.val, .agg (bA k)] w fun e w' => ∃ A cp c', e = .returned (.agg (pfC (prK n l k (T.dep k 0)) (.slice A (prK n l k (T.dep k 0)).sib.length cp))) ∧ NewD w' w.heap.size A cp (prK n l k (T.dep k 0)).sib ∧ c' ≤ c + 1000 ∧ Hs w' b n c' ∧ Keep (fun i => i = b) w w'
 check : ∀ (w : World) (p : Pf) (A : Option Addr) (c : Nat), p.Ok → DS w A p.sib → p.sib.length ≤ c → p.sib.length ≤ 1000000 →
  Calls Tryz.prog 46 #[.agg (pfC p (.slice A p.sib.length c))] w fun e w' => e = .returned (.int .i64 (chkP p)) ∧ Below w.heap.size w w'
 supports : ∀ (w : World) (p : Pf) (A : Option Addr) (c : Nat) (k v : List UInt8) (q : Bool), p.Ok → k.length = 32 → v.length = 32 →
  Calls Tryz.prog 108 #[.agg (pfC p (.slice A p.sib.length c)), .agg (bA k), .agg (bA v), .bool q] w fun e w' => e = .returned (.bool (supP p k v q)) ∧ Below w.heap.size w w'
 expand : ∀ (w : World) (b : Nat) (n : Int) (m : Nat) (p : Pf) (A : Option Addr) (c : Nat), Hs w b n m → m ≤ 500000 → Vars w → p.Ok → DS w A p.sib → p.sib.length ≤ c → p.sib.length ≤ 1000000 → chkP p = 0 →
  Calls Tryz.prog 147 #[ptr b, .agg (pfC p (.slice A p.sib.length c))] w fun e w' => ∃ A' c' m', e = .returned (.tuple #[.slice A' (expL n p.bm p.sib p.dep.toNat).length c', .int .i64 0]) ∧ NewD w' w.heap.size A' c' (expL n p.bm p.sib p.dep.toNat) ∧ m' ≤ m + 1000 ∧ Hs w' b n m' ∧ Keep (fun i => i = b) w w'
 expandBad : ∀ (w : World) (b : Nat) (n : Int) (m : Nat) (p : Pf) (A : Option Addr) (c : Nat), Hs w b n m → m ≤ 500000 → Vars w → p.Ok → DS w A p.sib → p.sib.length ≤ c → p.sib.length ≤ 1000000 → chkP p ≠ 0 →
  Calls Tryz.prog 147 #[ptr b, .agg (pfC p (.slice A p.sib.length c))] w fun e w' => ∃ A' c' m', e = .returned (.tuple #[.slice A' 0 c', .int .i64 (chkP p)]) ∧ m' ≤ m + 1000 ∧ Hs w' b n m' ∧ Keep (fun i => i = b) w w'
theorem expL_mem {n : Int} {bm : List UInt8} {sib : List (List UInt8)} (hb : (Bt.setZ (keyF bm) 256).length = sib.length) (hs : ∀ s ∈ sib, s.length = 32) : ∀ {d : Nat}, d ≤ 256 → ∀ s ∈ expL n bm sib d, s.length = 32
 | 0, _, s, h => by simp [expL] at h
 | d + 1, hd, s, h => by
  unfold expL at h
  rcases List.mem_append.1 h with h | h
  ·exact expL_mem hb hs (by omega) s h
  ·rw [List.mem_singleton] at h
   subst h
   by_cases hbit : Bt.bit (keyF bm) d = 1
   ·rw [if_pos hbit]
    have := cntB_lt (show d < 256 by omega) hbit
    rw [List.getD_eq_getElem?_getD, List.getElem?_eq_getElem (by omega)]
    exact hs _ (List.getElem_mem _)
   ·rw [if_neg hbit]; exact dig_len _ _
end
section
open Go.RowKit
def k255 : List UInt8 := 255 :: List.replicate 31 0
def e0 : En := ⟨z26, none, [], 0⟩
theorem supP_no (p : Pf) (k v : List UInt8) : supP p k v false = supNo p k := by unfold supP; rw [if_neg (by simp)]
theorem supP_yes (p : Pf) (k v : List UInt8) : supP p k v true = supYes p k v := by unfold supP; rw [if_pos rfl]
structure Ex15 (p q : Pf) : Prop where
 pk : p.kind = 0
 pd : p.dep = 0
 ps : p.sib.length = 0
 po : p.Ok
 qk : q.kind = 1
 qd : q.dep = 1
 qs : q.sib.length = 1
 qo : q.Ok
 yes : supP q k128 z26 false = true
 no : supP q k255 z26 false = false
 chk : chkP q = 0
 ex : (expL 256 q.bm q.sib q.dep.toNat).length = 1
 eq : eqP q q = true
 ne : eqP p q = false
end
end Go.Proofs.YtjgdindjimbfeaaGreatDoor
