/- Several texts in one: Ad Ae Af Ag Ah. -/
import Derived.Test.YtbkokcfmndiedaaGreatDoorAA
import Derived.Test.YtbkokcfmndiedaaGreatDoorM4
import Derived.Test.YtbkokcfmndiedaaGreatDoorHH
import Derived.Test.YtbkokcfmndiedaaGreatDoorMO
import Derived.Test.YtbkokcfmndiedaaGreatDoorM6
import Derived.Test.YtbkokcfmndiedaaGreatDoorMM
import Derived.Test.YtbkokcfmndiedaaGreatDoorMT
/- The reference of layer 15: Depths, Check, Supports, Equal, Expand (by program: gen-tpl15-ref.py). -/
namespace Go.Proofs.YtbkokcfmndiedaaGreatDoor
open Go.RowKit

set_option maxHeartbeats 4000000 in
set_option maxRecDepth 100000 in
theorem rdepths_c (p : Pf) (hp : p.Ok) (s : Value) (w : World) :
    Calls Tryz.prog 10 #[.agg (pfC p s)] w fun e w' => ∃ v, e = .returned v ∧ Bt.OwnZ w' w.heap.size v (Bt.setZ (keyF p.bm) 256) ∧ Below w.heap.size w w' := by
  have HP := Lib.hid hp
  have HR : Hid (∀ (m : Nat) w, m < 256 → Calls Tryz.prog 33 #[.agg (bA p.bm), .int .i64 m] w fun e w' => e = .returned (.int .i64 (Bt.bit (keyF p.bm) m)) ∧ Below w.heap.size w w') := fun m w hm => by
    have := bitK_c p.bm hp.bm m w
    rwa [bitK_in p.bm (by omega) (by omega), Int.toNat_natCast] at this
  clear hp
  go_enter Tryz.func10, Tryz.ntmps10
  go_wp2
  go_loopg [3, 4] 256 (fun g v j wr => ∃ m : Nat, j = .int .i64 m ∧ m ≤ 256 ∧ 256 - m ≤ g ∧ Bt.OwnZ wr (w.heap.size + 1) v (Bt.setZ (keyF p.bm) m) ∧ PfAt wr w.heap.size p s ∧ Below w.heap.size w wr)
  case atStart => exact ⟨0, rfl, by omega, by omega, Bt.OwnZ.nil _ _, PfAt.one _ _ _, Bt.one_below _ _⟩
  case round =>
    obtain ⟨m, rfl, hm, hg, hO, hA, hB⟩ := hrel
    have HO := Lib.hid hO
    have HA := Lib.hid hA
    have HB := Lib.hid hB
    by_cases hlt : m < 256
    · have hd : decide ((m : Int) < 256) = true := by simp; omega
      have hl := hA.bm HP.out
      have hl' := hA.bmA HP.out
      have hlen := Bt.setZ_len (keyF p.bm) m
      have hc := HR.out m
      rcases Bt.bit_01 (keyF p.bm) m with hb | hb
      · have HS := Lib.hid (Bt.setZ_no hb)
        rw [hb] at hc
        have HC := Lib.hid hc
        clear hO hA hB hb hc
        go_wp2_with fail
        refine (HC.out _ hlt).mono ?_
        rintro e w1 ⟨rfl, hb1⟩
        have HO1 := Lib.hid (HO.out.below hb1)
        have HA1 := Lib.hid (HA.out.below hb1 HA.out.lt)
        have HB1 := Lib.hid (HB.out.trans (hb1.mono HB.out.size))
        clear hb1 hl hl'
        go_wp2
        go_roundg (256 - (m + 1))
        case measure => omega
        case rel => exact ⟨m + 1, by go_num, by omega, by omega, by rw [HS.out]; exact HO1.out, HA1.out, HB1.out⟩
      · have HS := Lib.hid (Bt.setZ_yes hb)
        rw [hb] at hc
        have HC := Lib.hid hc
        clear hO hA hB hb hc
        go_wp2_with fail
        refine (HC.out _ hlt).mono ?_
        rintro e w1 ⟨rfl, hb1⟩
        have HO1 := Lib.hid (HO.out.below hb1)
        have HA1 := Lib.hid (HA.out.below hb1 HA.out.lt)
        have HB1 := Lib.hid (HB.out.trans (hb1.mono HB.out.size))
        clear hb1 hl hl'
        go_wp2_with (at_builtin; refine Bt.wpList_pushZ rfl _ _ rfl (w.heap.size + 1) _ (Bt.setZ (keyF p.bm) m) rfl (HO1.out.below (Bt.one_below _ _)) w1.heap.size (m : Int) rfl (Bt.cell_oneZ _ _ _) (by omega) (by have := HB1.out.size; have := HA1.out.lt; simp; omega) ?_)
        intro v' w2 hO2 hB2
        have HO2 := Lib.hid hO2
        have HB2 := Lib.hid ((HB1.out.alloc HB1.out.size _).trans (hB2.mono (by omega)))
        have HA2 := Lib.hid ((HA1.out.below (Bt.one_below _ _) HA1.out.lt).below hB2 (by omega))
        clear hO2 hB2
        go_wp2
        go_roundg (256 - (m + 1))
        case measure => omega
        case rel => exact ⟨m + 1, by go_num, by omega, by omega, by rw [HS.out]; exact HO2.out, HA2.out, HB2.out⟩
    · have hd : decide ((m : Int) < 256) = false := by simp; omega
      obtain rfl : m = 256 := by omega
      clear hO hA hB
      go_wp2
      go_ret
      exact ⟨_, rfl, HO.out.mono (by omega), HB.out⟩
/-- The order of the reference's questions. -/
theorem chk_split (p : Pf) : (p.kind ≠ 0 ∧ p.kind ≠ 1 ∧ chkP p = 7) ∨ ((p.kind = 0 ∨ p.kind = 1) ∧ (
    (p.dep < 0 ∧ chkP p = 5) ∨ (0 ≤ p.dep ∧ 256 < p.dep ∧ chkP p = 5) ∨ (0 ≤ p.dep ∧ p.dep ≤ 256 ∧ (
      (p.kind = 0 ∧ p.lf ≠ z64 ∧ chkP p = 5) ∨ ((p.kind = 1 ∨ p.lf = z64) ∧ (
        ((Bt.setZ (keyF p.bm) 256).length ≠ p.sib.length ∧ chkP p = 5) ∨ ((Bt.setZ (keyF p.bm) 256).length = p.sib.length ∧ (
          (0 < (Bt.setZ (keyF p.bm) 256).length ∧ (Bt.lastTo (keyF p.bm) 256 ≠ p.dep - 1 ∧ chkP p = 5 ∨ Bt.lastTo (keyF p.bm) 256 = p.dep - 1 ∧ chkP p = 0)) ∨
          ((Bt.setZ (keyF p.bm) 256).length = 0 ∧ (0 < p.dep ∧ chkP p = 5 ∨ p.dep = 0 ∧ chkP p = 0)))))))))) := by
  rcases chkP_cases p with ⟨h1, h2, h3⟩ | ⟨hk, h⟩
  · exact .inl ⟨h2, h3, h1⟩
  · refine .inr ⟨hk, ?_⟩
    have bad : ∀ {q : Prop}, (p.good → False) → chkP p = 5 := fun hn => by
      rcases h with ⟨h1, _⟩ | ⟨_, h2⟩
      · exact h1
      · exact (hn h2).elim
    have good : p.good → chkP p = 0 := fun hg => by
      rcases h with ⟨_, h2⟩ | ⟨h1, _⟩
      · exact (h2 hg).elim
      · exact h1
    by_cases d1 : p.dep < 0
    · exact .inl ⟨d1, bad (q := True) fun hg => by have := hg.1; omega⟩
    · by_cases d2 : 256 < p.dep
      · exact .inr (.inl ⟨by omega, d2, bad (q := True) fun hg => by have := hg.2.1; omega⟩)
      · refine .inr (.inr ⟨by omega, by omega, ?_⟩)
        by_cases d3 : p.kind = 0 ∧ p.lf ≠ z64
        · exact .inl ⟨d3.1, d3.2, bad (q := True) fun hg => d3.2 (hg.2.2.1 d3.1)⟩
        · have d3' : p.kind = 1 ∨ p.lf = z64 := by
            rcases hk with hk | hk
            · exact .inr (Classical.byContradiction fun hn => d3 ⟨hk, hn⟩)
            · exact .inl hk
          have g3 : p.kind = 0 → p.lf = z64 := fun h0 => by
            rcases d3' with h1 | h1
            · omega
            · exact h1
          refine .inr ⟨d3', ?_⟩
          by_cases d4 : (Bt.setZ (keyF p.bm) 256).length = p.sib.length
          · refine .inr ⟨d4, ?_⟩
            rcases setZ_last (keyF p.bm) 256 with ⟨s1, s2⟩ | ⟨s1, _⟩
            · refine .inr ⟨by rw [s1]; rfl, ?_⟩
              by_cases d5 : 0 < p.dep
              · exact .inl ⟨d5, bad (q := True) fun hg => by have := hg.2.2.2.2; omega⟩
              · exact .inr ⟨by omega, good ⟨by omega, by omega, g3, d4, by omega⟩⟩
            · refine .inl ⟨s1, ?_⟩
              by_cases d5 : Bt.lastTo (keyF p.bm) 256 = p.dep - 1
              · exact .inr ⟨d5, good ⟨by omega, by omega, g3, d4, d5⟩⟩
              · exact .inl ⟨d5, bad (q := True) fun hg => d5 hg.2.2.2.2⟩
          · exact .inl ⟨d4, bad (q := True) fun hg => d4 hg.2.2.2.1⟩
end Go.Proofs.YtbkokcfmndiedaaGreatDoor

/- The reference of layer 15: Supports, Equal. -/
namespace Go.Proofs.YtbkokcfmndiedaaGreatDoor
open Go.RowKit

theorem ret_b15 {a b : Bool} (h : a = b) : Ending.returned (.bool a) = .returned (.bool b) := by rw [h]
theorem three_below (w : World) (o p q : Obj) : Below w.heap.size w (((w.alloc o).alloc p).alloc q) := ((Bt.two_below w o p).alloc (by simp; omega) q)
end Go.Proofs.YtbkokcfmndiedaaGreatDoor

/- The reference of layer 15: Equal, Expand (by program: gen-tpl15-equal.py). -/
namespace Go.Proofs.YtbkokcfmndiedaaGreatDoor
open Go.RowKit

/-- Two proofs are equal. -/
def eqP (p q : Pf) : Bool := decide (p.kind = q.kind ∧ p.dep = q.dep ∧ p.lf = q.lf ∧ p.bm = q.bm ∧ p.sib = q.sib)
theorem eqP_no {p q : Pf} (h : p.kind ≠ q.kind ∨ p.dep ≠ q.dep ∨ p.lf ≠ q.lf ∨ p.bm ≠ q.bm ∨ p.sib ≠ q.sib) : eqP p q = false := by
  unfold eqP
  refine decide_eq_false ?_
  rintro ⟨h1, h2, h3, h4, h5⟩
  rcases h with h | h | h | h | h
  · exact h h1
  · exact h h2
  · exact h h3
  · exact h h4
  · exact h h5
theorem eqP_refl (p : Pf) : eqP p p = true := decide_eq_true ⟨rfl, rfl, rfl, rfl, rfl⟩
set_option maxHeartbeats 8000000 in
set_option maxRecDepth 100000 in
theorem requal_c (p q : Pf) (hp : p.Ok) (hq : q.Ok) (A B : Option Addr) (c d : Nat) (w : World) (hA : DS w A p.sib) (hC : DS w B q.sib) (hl : p.sib.length ≤ 1000000) (_hm : q.sib.length ≤ 1000000) :
    Calls Tryz.prog 19 #[.agg (pfC p (.slice A p.sib.length c)), .agg (pfC q (.slice B q.sib.length d))] w fun e w' => e = .returned (.bool (eqP p q)) ∧ Below w.heap.size w w' := by
  have hB : Below w.heap.size w ((w.alloc (.cells (pfC p (.slice A p.sib.length c)) 36)).alloc (.cells (pfC q (.slice B q.sib.length d)) 36)) := Bt.two_below _ _ _
  have hP : PfAt ((w.alloc (.cells (pfC p (.slice A p.sib.length c)) 36)).alloc (.cells (pfC q (.slice B q.sib.length d)) 36)) w.heap.size p (.slice A p.sib.length c) := (PfAt.one w p _).below (Bt.one_below _ _) (by simp)
  have hQ : PfAt ((w.alloc (.cells (pfC p (.slice A p.sib.length c)) 36)).alloc (.cells (pfC q (.slice B q.sib.length d)) 36)) (w.heap.size + 1) q (.slice B q.sib.length d) := heap_alloc2_new w _ _
  have a0 := hP.kind
  have a1 := hP.dep
  have a2 := hP.leaf hp
  have a3 := hP.bm hp
  have a3' := hP.bmA hp
  have a4 := hP.sib hp
  have c0 := hQ.kind
  have c1 := hQ.dep
  have c2 := hQ.leaf hq
  have c3 := hQ.bm hq
  have c3' := hQ.bmA hq
  have c4 := hQ.sib hq
  have nl := fun x y w => neLeaf p.lf q.lf hp.lf hq.lf x y w
  have nb := fun x y w => neA32 p.bm q.bm hp.bm hq.bm x y w
  have HB := Lib.hid hB
  by_cases h1 : p.kind = q.kind
  · have b1 : (p.kind != q.kind) = false := by simpa using h1
    by_cases h2 : p.dep = q.dep
    · have b2 : (p.dep != q.dep) = false := by simpa using h2
      by_cases h3 : p.lf = q.lf
      · have b3 : decide (p.lf = q.lf) = true := decide_eq_true h3
        by_cases h4 : p.bm = q.bm
        · have b4 : decide (p.bm = q.bm) = true := decide_eq_true h4
          by_cases h5 : p.sib.length = q.sib.length
          · have b5 : ((p.sib.length : Int) != (q.sib.length : Int)) = false := by simp; omega
            have HE : Hid (eqP p q = decide (p.sib = q.sib)) := by
              show _ = _
              by_cases h6 : p.sib = q.sib
              · rw [decide_eq_true h6]; exact decide_eq_true ⟨h1, h2, h3, h4, h6⟩
              · rw [decide_eq_false h6]; exact eqP_no (.inr (.inr (.inr (.inr h6))))
            have HA := Lib.hid hA
            have HC := Lib.hid hC
            have HP := Lib.hid hP
            have HQ := Lib.hid hQ
            have HOP := Lib.hid hp
            have HOQ := Lib.hid hq
            have HL5 := Lib.hid h5
            clear h1 h2 h3 h4 h5 hP hQ hp hq hA hC hB
            go_enter Tryz.func19, Tryz.ntmps19
            go_wp2
            clear a0 a1 a2 a3 a3' a4 c0 c1 c2 c3 c3' c4 nl nb
            go_loopg [5] p.sib.length (fun g j wr => ∃ k : Nat, j = .int .i64 k ∧ k ≤ p.sib.length ∧ p.sib.length - k ≤ g ∧ Hid (p.sib.take k = q.sib.take k) ∧ PfAt wr w.heap.size p (.slice A p.sib.length c) ∧ PfAt wr (w.heap.size + 1) q (.slice B q.sib.length d) ∧ Below w.heap.size w wr)
            case atStart => exact ⟨0, rfl, by omega, by omega, rfl, HP.out, HQ.out, HB.out⟩
            case round =>
              obtain ⟨k, rfl, hk, hg, HK, hP, hQ, hBw⟩ := hrel
              have HBW := Lib.hid hBw
              have a4 := hP.sib HOP.out
              by_cases hlt : k < p.sib.length
              · have hd : decide ((k : Int) < p.sib.length) = true := by simp; omega
                have hd' : decide (k < p.sib.length) = true := decide_eq_true hlt
                obtain ⟨x, hx⟩ : ∃ x, p.sib[k]? = some x := ⟨_, List.getElem?_eq_getElem hlt⟩
                obtain ⟨y, hy⟩ : ∃ y, q.sib[k]? = some y := ⟨_, List.getElem?_eq_getElem (by have := HL5.out; omega)⟩
                obtain ⟨hxl, e1, o1, rfl, r1⟩ := HA.out k x hx
                obtain ⟨hyl, e2, o2, rfl, r2⟩ := HC.out k y hy
                have sa := fun z : Later wr => (hP.below z.h hP.lt).sib HOP.out
                have sc := fun z : Later wr => (hQ.below z.h hQ.lt).sib HOQ.out
                have la := fun z : Later wr => ldDig (range_below (range_below r1 HBW.out) z.h) hxl
                have lb := fun z : Later wr => ldDig (range_below (range_below r2 HBW.out) z.h) hyl
                have nd := fun u v w => neDig x y hxl hyl u v w
                have HPW := Lib.hid hP
                have HQW := Lib.hid hQ
                have HX := Lib.hid hx
                have HY := Lib.hid hy
                have p0 : (0 : Int) ≤ (k : Int) := by omega
                have p1 : (k : Int) < (p.sib.length : Int) := by omega
                have p2 : (k : Int) < (q.sib.length : Int) := by have := HL5.out; omega
                clear hx hy hxl hyl r1 r2 hP hQ hBw
                by_cases hxy : x = y
                · have bx : decide (x = y) = true := decide_eq_true hxy
                  have HXY := Lib.hid hxy
                  clear hxy
                  go_wp2_with fail
                  refine wp_region_later (by kernel_rfl) (by kernel_rfl) ?_
                  repeat (go_big_quiet_step (fail))
                  refine wpQuiet_nil ?_
                  rintro _ ⟨z, rfl⟩
                  have HP2 := Lib.hid (HPW.out.below z.h HPW.out.lt)
                  have HQ2 := Lib.hid (HQW.out.below z.h HQW.out.lt)
                  have HB2 := Lib.hid (HBW.out.trans (z.h.mono HBW.out.size))
                  clear la lb nd sa sc a4
                  go_wp2
                  go_roundg (p.sib.length - (k + 1))
                  case measure => omega
                  case rel =>
                    refine ⟨k + 1, by go_num, by omega, by omega, ?_, HP2.out, HQ2.out, HB2.out⟩
                    show p.sib.take (k + 1) = q.sib.take (k + 1)
                    rw [List.take_add_one, List.take_add_one, HK.out, HX.out, HY.out, HXY.out]
                · have bx : decide (x = y) = false := decide_eq_false hxy
                  have HN : Hid (decide (p.sib = q.sib) = false) := decide_eq_false fun h => hxy (by
                    have h7 := HX.out
                    rw [h, HY.out] at h7
                    exact (Option.some.inj h7).symm)
                  clear hxy
                  go_wp2_with fail
                  refine wp_region_later (by kernel_rfl) (by kernel_rfl) ?_
                  repeat (go_big_quiet_step (fail))
                  refine wpQuiet_nil ?_
                  rintro _ ⟨z, rfl⟩
                  have HB2 := Lib.hid (HBW.out.trans (z.h.mono HBW.out.size))
                  clear la lb nd sa sc a4
                  go_wp2
                  go_ret
                  exact ⟨ret_b15 (by rw [HE.out, HN.out]), HB2.out⟩
              · have hd : decide ((k : Int) < p.sib.length) = false := by simp; omega
                have hd' : decide (k < p.sib.length) = false := decide_eq_false hlt
                have HN : Hid (decide (p.sib = q.sib) = true) := decide_eq_true (by
                  have := HK.out
                  rwa [List.take_of_length_le (by omega), List.take_of_length_le (by have := HL5.out; omega)] at this)
                clear hP hQ hBw
                go_wp2
                go_ret
                exact ⟨ret_b15 (by rw [HE.out, HN.out]), HBW.out⟩
          · have b5 : ((p.sib.length : Int) != (q.sib.length : Int)) = true := by simp; omega
            have HE := Lib.hid (eqP_no (p := p) (q := q) (.inr (.inr (.inr (.inr fun h => h5 (by rw [h]))))))
            clear h1 h2 h3 h4 h5
            clear hP hQ hp hq hA hC hB
            go_enter Tryz.func19, Tryz.ntmps19
            go_wp2
            go_ret
            exact ⟨ret_b15 HE.out.symm, HB.out⟩
        · have b4 : decide (p.bm = q.bm) = false := decide_eq_false h4
          have HE := Lib.hid (eqP_no (p := p) (q := q) (.inr (.inr (.inr (.inl h4)))))
          clear h1 h2 h3 h4
          clear hP hQ hp hq hA hC hB
          go_enter Tryz.func19, Tryz.ntmps19
          go_wp2
          go_ret
          exact ⟨ret_b15 HE.out.symm, HB.out⟩
      · have b3 : decide (p.lf = q.lf) = false := decide_eq_false h3
        have HE := Lib.hid (eqP_no (p := p) (q := q) (.inr (.inr (.inl h3))))
        clear h1 h2 h3
        clear hP hQ hp hq hA hC hB
        go_enter Tryz.func19, Tryz.ntmps19
        go_wp2
        go_ret
        exact ⟨ret_b15 HE.out.symm, HB.out⟩
    · have b2 : (p.dep != q.dep) = true := by simpa using h2
      have HE := Lib.hid (eqP_no (p := p) (q := q) (.inr (.inl h2)))
      clear h1 h2
      clear hP hQ hp hq hA hC hB
      go_enter Tryz.func19, Tryz.ntmps19
      go_wp2
      go_ret
      exact ⟨ret_b15 HE.out.symm, HB.out⟩
  · have b1 : (p.kind != q.kind) = true := by simpa using h1
    have HE := Lib.hid (eqP_no (p := p) (q := q) (.inl h1))
    clear h1
    clear hP hQ hp hq hA hC hB
    go_enter Tryz.func19, Tryz.ntmps19
    go_wp2
    go_ret
    exact ⟨ret_b15 HE.out.symm, HB.out⟩
end Go.Proofs.YtbkokcfmndiedaaGreatDoor

/- What the law of layer 15 asks of the program: Prove, Check, Supports, Clone, Equal, Expand. -/
namespace Go.Proofs.YtbkokcfmndiedaaGreatDoor
open Go.RowKit

/-- A new row of digests that nothing older holds. -/
def NewD (w' : World) (B : Nat) (A : Option Addr) (c : Nat) (ds : List (List UInt8)) : Prop := ds.length ≤ c ∧ (ds = [] ∨ OwnD w' B (.slice A ds.length c) ds)
theorem NewD.ds {w' : World} {B : Nat} {A : Option Addr} {c : Nat} {ds : List (List UInt8)} (h : NewD w' B A c ds) (hl : ∀ s ∈ ds, s.length = 32) : DS w' A ds := by
  rcases h.2 with rfl | h
  · exact DS.nil _ _
  · obtain ⟨A', c', e, h1, _⟩ := h.ds hl
    cases e
    exact h1
theorem NewD.of {w' : World} {B : Nat} {v : Value} {ds : List (List UInt8)} (h : OwnD w' B v ds) (hl : ∀ s ∈ ds, s.length = 32) : ∃ A c, v = .slice A ds.length c ∧ NewD w' B A c ds := by
  have h' := h
  obtain ⟨A, c, rfl, _, hc⟩ := h.ds hl
  exact ⟨A, c, rfl, hc, .inr h'⟩
structure PfV (M : World → Int → Tv → Prop) : Prop where
  prove : ∀ (w : World) (b : Nat) (n : Int) (c : Nat) (l : List Ent) (T : Tv) (k : List UInt8), Hs w b n c → c ≤ 500000 → Vars w → M w n T → IsMap l T → k.length = 32 →
    Calls Tryz.prog 9 #[ptr b, T.val, .agg (bA k)] w fun e w' => ∃ A cp c', e = .returned (.agg (pfC (prK n l k (T.dep k 0)) (.slice A (prK n l k (T.dep k 0)).sib.length cp))) ∧ NewD w' w.heap.size A cp (prK n l k (T.dep k 0)).sib ∧ c' ≤ c + 1000 ∧ Hs w' b n c' ∧ Keep (fun i => i = b) w w'
  check : ∀ (w : World) (p : Pf) (A : Option Addr) (c : Nat), p.Ok → DS w A p.sib → p.sib.length ≤ c → p.sib.length ≤ 1000000 →
    Calls Tryz.prog 26 #[.agg (pfC p (.slice A p.sib.length c))] w fun e w' => e = .returned (.int .i64 (chkP p)) ∧ Below w.heap.size w w'
theorem expL_mem {n : Int} {bm : List UInt8} {sib : List (List UInt8)} (hb : (Bt.setZ (keyF bm) 256).length = sib.length) (hs : ∀ s ∈ sib, s.length = 32) : ∀ {d : Nat}, d ≤ 256 → ∀ s ∈ expL n bm sib d, s.length = 32
  | 0, _, s, h => by simp [expL] at h
  | d + 1, hd, s, h => by
    unfold expL at h
    rcases List.mem_append.1 h with h | h
    · exact expL_mem hb hs (by omega) s h
    · rw [List.mem_singleton] at h
      subst h
      by_cases hbit : Bt.bit (keyF bm) d = 1
      · rw [if_pos hbit]
        have := cntB_lt (show d < 256 by omega) hbit
        rw [List.getD_eq_getElem?_getD, List.getElem?_eq_getElem (by omega)]
        exact hs _ (List.getElem_mem _)
      · rw [if_neg hbit]; exact dig_len _ _
end Go.Proofs.YtbkokcfmndiedaaGreatDoor

/- alive of layer 15 over contracts. -/
namespace Go.Proofs.YtbkokcfmndiedaaGreatDoor
open Go.RowKit

def k7 : List UInt8 := 7 :: List.replicate 31 0
def k255 : List UInt8 := 255 :: List.replicate 31 0
theorem bldKey_7 (w : World) : bldA 24 w #[(0, .int .u8 7)] = .ok (.value (.agg (bA k7))) w := by kernel_rfl
theorem bldKey_255 (w : World) : bldA 24 w #[(0, .int .u8 255)] = .ok (.value (.agg (bA k255))) w := by kernel_rfl
theorem bldDig_none (w : World) : bldA 31 w #[] = .ok (.value (.agg (bA z26))) w := by kernel_rfl
def e0 : En := ⟨z26, none, [], 0⟩
def eF : En := ⟨k255, none, [], 0⟩
def E0 : Ent := ⟨z26, []⟩
def EF : Ent := ⟨k255, []⟩
theorem bldEntry_z (w : World) : bldA 63 w #[] = .ok (.value (.agg (enC e0).toArray)) w := by kernel_rfl
theorem bldEntry_ff (w : World) : bldA 63 w #[(0, .agg (bA k255))] = .ok (.value (.agg (enC eF).toArray)) w := by kernel_rfl
theorem bsE_ff (w : World) : bsE w 2 #[(0, .agg (enC e0).toArray), (1, .agg (enC eF).toArray)] = .ok (.value (.slice (some ⟨w.heap.size, 0, none⟩) 2 2)) (w.alloc (.cells ([e0, eF].flatMap enC).toArray 63)) := by kernel_rfl
theorem cmp_ff : cmpK k255 z26 = 1 := by decide
theorem put_ff : ([e0, eF].map En.ent).foldl putK [] = [E0, EF] := by
  have h : z26 ≠ k255 := by decide
  show putK (putK [] E0) EF = _
  rw [show putK [] E0 = [E0] from rfl]
  unfold putK
  rw [show rmK [E0] EF.k = [E0] by simp [rmK, E0, EF, h]]
  simp [insK, E0, EF, cmp_ff]
theorem bit_ff : bitK k255 0 = 1 := by decide
theorem ea_ff {w : World} : EA (w.alloc (.cells ([e0, eF].flatMap enC).toArray 63)) (some ⟨w.heap.size, 0, none⟩) [e0, eF] := ea_row (heap_alloc_new w _) fun e he => by
  simp only [List.mem_cons, List.not_mem_nil, or_false] at he
  rcases he with rfl | rfl
  · exact ⟨rfl, Nat.le_refl 0, fun j x hj => by simp [e0] at hj⟩
  · exact ⟨rfl, Nat.le_refl 0, fun j x hj => by simp [eF] at hj⟩
theorem dK_ff : dK [E0, EF] k128 1 = [EF] := by
  show partK [E0, EF] 0 (bitK k128 0) = _
  rw [bit_b]
  simp [partK, E0, EF, bit_a, bit_ff]
theorem supP_no (p : Pf) (k v : List UInt8) : supP p k v false = supNo p k := by unfold supP; rw [if_neg (by simp)]
theorem supP_yes (p : Pf) (k v : List UInt8) : supP p k v true = supYes p k v := by unfold supP; rw [if_pos rfl]
/-- The two proofs of the chapter's examples. -/
structure Ex15 (p q : Pf) : Prop where
  pk : p.kind = 0
  pd : p.dep = 0
  ps : p.sib.length = 0
  po : p.Ok
  qk : q.kind = 1
  qd : q.dep = 1
  qs : q.sib.length = 1
  qo : q.Ok
  yes : supP q k128 z26 false = true
  no : supP q k255 z26 false = false
  chk : chkP q = 0
  ex : (expL 256 q.bm q.sib q.dep.toNat).length = 1
  eq : eqP q q = true
  ne : eqP p q = false
theorem ex15 (h : Sep 0 [E0, EF]) : Ex15 (prK 256 [] k7 0) (prK 256 [E0, EF] k128 1) := by
  have hf : kindO (dK [E0, EF] k128 1) = 1 := by rw [dK_ff]; rfl
  have h2 : (dK [E0, EF] k128 1).length ≤ 1 := by rw [dK_ff]; decide
  have h1 : ∀ j, j < 1 → 2 ≤ (dK [E0, EF] k128 j).length := fun j hj => by
    obtain rfl : j = 0 := by omega
    exact Nat.le_refl 2
  refine ⟨rfl, rfl, rfl, prK_ok sep_none _, hf, rfl, ?_, prK_ok h _, ?_, ?_, prK_good (by decide) h1 h2, rfl, eqP_refl _, ?_⟩
  · show (sibS 256 [E0, EF] k128 1).length = 1
    rw [sibS_yes (show sibK [E0, EF] k128 0 ≠ [] from ?_)]
    · rfl
    · show partK [E0, EF] 0 (1 - bitK k128 0) ≠ []
      rw [bit_b]
      simp [partK, E0, EF, bit_a]
  · rw [supP_no, sup_no h (by decide) h2 rfl]
    have : ([E0, EF].find? fun e => decide (e.k = k128)) = none := find_key.2 fun e he => by
      simp only [List.mem_cons, List.not_mem_nil, or_false] at he
      rcases he with rfl | rfl
      · show z26 ≠ k128; decide
      · show k255 ≠ k128; decide
    rw [this]; rfl
  · rw [supP_no]
    refine decide_eq_false ?_
    rintro (h3 | ⟨_, h4, _⟩)
    · have : kindO (dK [E0, EF] k128 1) = 0 := h3
      rw [hf] at this; exact absurd this (by decide)
    · refine h4 ?_
      show (leafO 256 (dK [E0, EF] k128 1)).take 32 = k255
      rw [dK_ff]; rfl
  · refine eqP_no (.inl ?_)
    show kindO [] ≠ kindO (dK [E0, EF] k128 1)
    rw [hf]; decide
theorem dep_ff {T : Tv} (h : IsMap [E0, EF] T) : T.dep k128 0 = 1 := dep_eq h.sep (h.at k128) (fun j hj => by
  obtain rfl : j = 0 := by omega
  exact Nat.le_refl 2) (by rw [dK_ff]; decide)
end Go.Proofs.YtbkokcfmndiedaaGreatDoor
