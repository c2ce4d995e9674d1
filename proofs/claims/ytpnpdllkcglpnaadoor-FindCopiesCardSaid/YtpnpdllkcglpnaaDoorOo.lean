/- The walk of FindCopies over contracts (by program: gen-tpl8-laws.py). -/
import Derived.Test.YtpnpdllkcglpnaaDoorOk
import Derived.Test.YtpnpdllkcglpnaaDoorNg
namespace Go.Proofs.YtpnpdllkcglpnaaDoor
open Go.RowKit

theorem find_own {l : List Ent} (h : l.Pairwise (fun a b => a.k ≠ b.k)) {e : Ent} (he : e ∈ l) : l.find? (fun x => decide (x.k = e.k)) = some e := by
  induction l with
  | nil => simp at he
  | cons x r ih =>
    obtain ⟨h1, h2⟩ := List.pairwise_cons.1 h
    rw [List.find?_cons]
    rcases List.mem_cons.1 he with rfl | he
    · simp
    · have : decide (x.k = e.k) = false := decide_eq_false (h1 e he)
      rw [this]
      exact ih h2 he
set_option maxHeartbeats 16000000 in
set_option maxRecDepth 100000 in
theorem copies_in {M : World → Int → Tv → Prop} (nd : NdV M) (fv : FnV M) (n : Int) (A : Option Addr) (c : Nat) (es : List En) (i : Nat) (hi : i < 256) (W : World) (hA : EA W A es) (hl : es.length ≤ 12) (hvl : ∀ e ∈ es, e.v.length ≤ 1000) (hf : fewK (es.map En.ent) = true) (hvx : Vars W) (h0 : 0 ≤ n) (h1 : n ≤ 256) :
    Calls Tryd.prog 8 #[.int .i64 n, .slice A es.length c, .int .u8 (i : Int)] W (Aye W) := by
  have HT := Lib.hid (tree_in nd n A c es W hA hl hvl hf hvx h0 h1)
  have HVE : Hid (∀ e ∈ ofE es, e.v.length ≤ 1000) := fun e he => hvl e (ofE_mem he)
  have HLE : Hid ((ofE es).length ≤ 12) := Nat.le_trans (ofE_len es) hl
  clear hA hvl hf hvx
  go_enter Tryd.func8, Tryd.ntmps8
  go_wp2_with fail
  refine HT.out.mono ?_
  rintro _ w2 ⟨A2, c2, T, rfl, hc2, hI, hF⟩
  have HI := Lib.hid hI
  have HF2 := Lib.hid hF
  have HC2 := Lib.hid hc2
  obtain ⟨O, hO⟩ : ∃ O, O = ofE es := ⟨_, rfl⟩
  rw [← hO] at HI HF2 HVE HLE HC2 ⊢
  clear hc2 hI hF HT hO
  rcases Nat.eq_zero_or_pos O.length with hz | hz
  · have hz2 : ((O.length : Int) == 0) = true := beq_iff_eq.2 (by omega)
    have hz3 : decide (O.length = 0) = true := decide_eq_true hz
    have HAL := Lib.hid (alive8_c nd fv w2 HF2.out.vars)
    clear hz
    go_wp2_with fail
    refine HAL.out.mono ?_
    rintro _ w3 ⟨rfl, hB⟩
    have HF3 := Lib.hid (HF2.out.below nd hB)
    clear hB HAL HF2
    go_wp2_with fail
    go_ret
    exact ⟨rfl, HF3.out.bel⟩
  · obtain ⟨N, hN⟩ : ∃ N, N = O.length := ⟨_, rfl⟩
    rw [← hN] at hz HLE HC2 ⊢
    have HNN := Lib.hid hN
    obtain ⟨m, hm⟩ : ∃ m, m = i % N := ⟨_, rfl⟩
    have hmN : m < N := by rw [hm]; exact Nat.mod_lt _ (by omega)
    have hmI : (i : Int) % (N : Int) = (m : Int) := by rw [hm]; omega
    have hz2 : ((N : Int) == 0) = false := beq_eq_false_iff_ne.2 (by omega)
    have hz3 : decide (N = 0) = false := decide_eq_false (by omega)
    have hN12 : N ≤ 12 := HLE.out
    obtain ⟨e, he⟩ : ∃ e, O[m]? = some e := ⟨_, List.getElem?_eq_getElem (by omega)⟩
    have HMO := Lib.hid (List.mem_of_getElem? he)
    obtain ⟨hok, g, o, rfl, hr⟩ := HF2.out.ea m e he
    have HKL := Lib.hid hok.key
    have le := range_ent hr hok.key
    have p0 : (0 : Int) ≤ (m : Int) := by omega
    have p1 : (m : Int) < (N : Int) := by omega
    have HFI : Hid (∀ k, k = e.k → getT (T.fin k 0).tr k = some e.ent) := fun k hk => by
      subst hk
      rw [get_is HI.out.sep (HI.out.at e.k)]
      exact find_own HI.out.sep.ne (List.mem_map.2 ⟨e, HMO.out, rfl⟩)
    have st := stE_new (w := w2) (e := e) (z := ⟨z26, none, [], 0⟩) HKL.out rfl
    obtain ⟨Y, hY⟩ : ∃ Y, Y = w2.alloc (.cells (enC e).toArray 37) := ⟨_, rfl⟩
    have hbY : Below w2.heap.size w2 Y := by rw [hY]; exact (Below.refl _ _).alloc (Nat.le_refl _) _
    have hrY : Y.rangeAt w2.heap.size 0 (enC e) := by rw [hY]; exact ent_made w2 e _
    have HFY := Lib.hid (HF2.out.below nd hbY)
    have LK : Hid (∀ w', Below Y.heap.size Y w' → ldA 24 w' (.pointer (some ⟨w2.heap.size, 0, none⟩)) = .ok (.value (.agg (bA e.k))) w') := fun w' h => range_key (range_below hrY h) HKL.out
    have LV : Hid (∀ w', Below Y.heap.size Y w' → w'.cell? ⟨w2.heap.size, 32, none⟩ = some (.slice e.A e.v.length e.c)) := fun w' h => by
      have := range_val (range_below hrY h) HKL.out
      rwa [Nat.zero_add] at this
    have lk : ldA 24 (w2.alloc (.cells (enC e).toArray 37)) (.pointer (some ⟨w2.heap.size, 0, none⟩)) = .ok (.value (.agg (bA e.k))) (w2.alloc (.cells (enC e).toArray 37)) := by
      rw [← hY]; exact LK.out Y (Below.refl _ _)
    have HY := Lib.hid hY
    have HC := Lib.hid (fv.get Y n _ T e.k HFY.out.ms HI.out HKL.out)
    rw [HFI.out e.k rfl] at HC
    clear he hok hr hY hbY hrY hN hm HF2
    go_wp2_with fail
    rw [← HY.out]
    refine HC.out.mono ?_
    rintro _ w4 ⟨A4, c4, rfl, hN4, hB⟩
    rw [show (some e.ent).isSome = true from rfl, show valO (some e.ent) = e.v from rfl]
    have hNB : NewB w4 Y.heap.size A4 c4 e.v := hN4
    have HNB : Hid (e.v = [] ∨ OwnB w4 Y.heap.size (.slice A4 e.v.length c4) e.v) := hNB.2
    have HG4 : Hid (∀ g, A4 = some ⟨g, 0, none⟩ → 0 < e.v.length → Y.heap.size ≤ g ∧ g < w4.heap.size) := fun g hg h0 => by
      rcases hNB.2 with h | h
      · rw [h] at h0; exact absurd h0 (by decide)
      obtain ⟨g', e2, h1, h2, _⟩ := h.at h0
      rw [hg] at e2
      cases e2
      exact ⟨h1, h2⟩
    have HB4 := Lib.hid hB
    have lv := LV.out w4 hB
    have dl : ((e.v.length : Int) != (e.v.length : Int)) = false := by simp
    have HVL : Hid (e.v.length ≤ 1000) := HVE.out e HMO.out
    clear hN4 hNB hB HC lk st HY le
    go_wp2_with fail
    clear lv dl
    go_loopg [13, 58] e.v.length (fun gg _ q wr => ∃ (k : Nat) (l' : List UInt8), q = .int .i64 k ∧ k ≤ e.v.length ∧ e.v.length - k = gg ∧ l'.length = e.v.length ∧ (e.v = [] ∨ OwnB wr Y.heap.size (.slice A4 e.v.length c4) l') ∧ Keep (fun i => Y.heap.size ≤ i ∧ i < w4.heap.size) w4 wr)
    case atStart => exact ⟨0, e.v, rfl, by omega, by omega, rfl, HNB.out, Keep.refl _ _⟩
    case round =>
      obtain ⟨k, l', rfl, hkl, rfl, hl', hO, hK⟩ := hrel
      have HKr := Lib.hid hK
      have HL' := Lib.hid hl'
      have hv1000 : e.v.length ≤ 1000 := HVL.out
      by_cases hlt : k < e.v.length
      · have hO1 : OwnB wr Y.heap.size (.slice A4 l'.length c4) l' := by
          rw [hl']
          rcases hO with h | h
          · rw [h] at hlt; exact absurd hlt (Nat.not_lt_zero _)
          · exact h
        obtain ⟨y, hy⟩ : ∃ y, l'[k]? = some y := ⟨_, List.getElem?_eq_getElem (by omega)⟩
        clear hO hK hl'
        obtain ⟨g4, rfl, hg, hgl, hfz, hcell, hset⟩ := hO1.at (by have := HL'.out; omega)
        have hc2 : wr.cell? ⟨g4, k, none⟩ = some (.int .u8 (y.toNat : Int)) := hcell k y hy
        have hf := hfz k
        obtain ⟨z, hz⟩ := incr y
        have HSET : Hid (OwnB (wr.setCell ⟨g4, k, none⟩ (bv z)) Y.heap.size (.slice (some ⟨g4, 0, none⟩) e.v.length c4) (l'.set k z)) := by
          have := hset k z (by have := HL'.out; omega)
          rw [HL'.out] at this
          exact this
        have HGL := Lib.hid (HG4.out g4 rfl (by omega))
        have dk : decide (k < e.v.length) = true := decide_eq_true hlt
        have q0 : (0 : Int) ≤ (k : Int) := by omega
        have q1 : (k : Int) < (e.v.length : Int) := by omega
        clear hO1 hcell hset hfz hy hg hgl
        go_wp2_with fail
        go_roundg (e.v.length - (k + 1))
        case measure => omega
        case rel =>
          refine ⟨k + 1, l'.set k z, by go_num, by omega, rfl, by rw [List.length_set]; exact HL'.out, .inr HSET.out, HKr.out.step (Keep.cell _ _ _) fun i hi => .inl (by subst hi; exact HGL.out)⟩
      · obtain rfl : k = e.v.length := by omega
        have dk : decide (e.v.length < e.v.length) = false := decide_eq_false (by omega)
        have hBr : Below Y.heap.size Y wr := HB4.out.trans (HKr.out.below (B := Y.heap.size) HB4.out.size fun i hi => hi.1)
        have HBr := Lib.hid hBr
        have HF5 := Lib.hid (HFY.out.below nd hBr)
        have lk := LK.out wr hBr
        have HC := Lib.hid (fv.get wr n _ T e.k HF5.out.ms HI.out HKL.out)
        rw [HFI.out e.k rfl] at HC
        clear hO hK hl' HKr HL' HNB HG4 HB4 hBr
        go_wp2_with fail
        refine HC.out.mono ?_
        rintro _ w6 ⟨A6, c6, rfl, hN6, hB⟩
        rw [show (some e.ent).isSome = true from rfl, show valO (some e.ent) = e.v from rfl]
        have HN6 : Hid (BA w6 A6 e.v) := NewB.ba hN6
        have HF6 := Lib.hid (HF5.out.below nd hB)
        have HB6 := Lib.hid (HBr.out.trans (hB.mono HBr.out.size))
        have HAL := Lib.hid (alive8_c nd fv w6 HF6.out.vars)
        clear hN6 hB HC HF5 HBr lk
        go_wp2_with fail
        refine HAL.out.mono ?_
        rintro _ w7 ⟨rfl, hB⟩
        have HF7 := Lib.hid (HF6.out.below nd hB)
        have HN7 := Lib.hid (HN6.out.below hB)
        have lv := LV.out w7 (HB6.out.trans (hB.mono HB6.out.size))
        have HS := Lib.hid (same_yes A6 e.A c6 e.c _ e.v w7 rfl HN7.out (HF7.out.ea.mem e HMO.out).val (by have := HVL.out; omega))
        clear hB HAL HF6 HN6 HB6
        go_wp2_with fail
        refine HS.out.mono ?_
        rintro _ w8 ⟨rfl, hB⟩
        have HF8 := Lib.hid (HF7.out.below nd hB)
        clear hB HF7 HS lv
        go_wp2_with fail
        go_ret
        exact ⟨rfl, HF8.out.bel⟩
set_option maxHeartbeats 4000000 in
set_option maxRecDepth 100000 in
/-- Other bits, or entries that are not few: alive. -/
theorem copies_out {M : World → Int → Tv → Prop} (nd : NdV M) (fv : FnV M) (n : Int) (A : Option Addr) (c : Nat) (es : List En) (i : Nat) (W : World) (hA : EA W A es) (hvx : Vars W) (h : (n < 0 ∨ 256 < n) ∨ fewK (es.map En.ent) = false) :
    Calls Tryd.prog 8 #[.int .i64 n, .slice A es.length c, .int .u8 (i : Int)] W (Aye W) := by
  have HVX := Lib.hid hvx
  have HT := Lib.hid (tree_out n A c es W hA h)
  have HAL := Lib.hid (fun w h => alive8_c nd fv w h)
  clear hA hvx h
  go_enter Tryd.func8, Tryd.ntmps8
  go_wp2_with fail
  refine HT.out.mono ?_
  rintro _ w2 ⟨rfl, hB⟩
  have HB := Lib.hid hB
  clear hB HT
  go_wp2_with fail
  refine (HAL.out w2 (HVX.out.below HB.out)).mono ?_
  rintro _ w3 ⟨rfl, hB3⟩
  have HB3 := Lib.hid (HB.out.trans (hB3.mono HB.out.size))
  clear hB3
  go_wp2_with fail
  go_ret
  exact ⟨rfl, HB3.out⟩
theorem copies_w {M : World → Int → Tv → Prop} (nd : NdV M) (fv : FnV M) (n : Int) (A : Option Addr) (c : Nat) (es : List En) (i : Nat) (hi : i < 256) (W : World) (hA : EA W A es) (hvx : Vars W) :
    Calls Tryd.prog 8 #[.int .i64 n, .slice A es.length c, .int .u8 (i : Int)] W (Aye W) := by
  rcases Classical.em ((n < 0 ∨ 256 < n) ∨ fewK (es.map En.ent) = false) with h | h
  · exact copies_out nd fv n A c es i W hA hvx h
  · have hf : fewK (es.map En.ent) = true := by
      cases hq : fewK (es.map En.ent) with
      | true => rfl
      | false => exact absurd (.inr hq) h
    have hl := few_len hf
    rw [List.length_map] at hl
    exact copies_in nd fv n A c es i hi W hA hl (fun e he => Nat.le_trans (few_val hf e.ent (List.mem_map.2 ⟨e, he, rfl⟩)) (by decide)) hf hvx (by omega) (by omega)
theorem copies_i {M : World → Int → Tv → Prop} (nd : NdV M) (fv : FnV M) (n : Int) (A : Option Addr) (c : Nat) (es : List En) (a : Int) (h0 : 0 ≤ a) (h1 : a ≤ 255) (W : World) (hA : EA W A es) (hvx : Vars W) :
    Calls Tryd.prog 8 #[.int .i64 n, .slice A es.length c, .int .u8 a] W (Aye W) := by
  obtain ⟨i, rfl⟩ : ∃ i : Nat, a = (i : Int) := ⟨a.toNat, by omega⟩
  exact copies_w nd fv n A c es i (by omega) W hA hvx
end Go.Proofs.YtpnpdllkcglpnaaDoor
