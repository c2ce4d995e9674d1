/- The reference of layer 7: Same (lists of entries). -/
import Derived.Test.YtpnpdllkcglpnaaDoorOd
namespace Go.Proofs.YtpnpdllkcglpnaaDoor
open Go.RowKit

instance : DecidableEq Ent := fun a b => if h : a.k = b.k ∧ a.v = b.v then isTrue (by cases a; cases b; obtain ⟨rfl, rfl⟩ := h; rfl) else isFalse fun e => h ⟨congrArg Ent.k e, congrArg Ent.v e⟩
theorem map_take_succ {es : List En} {m : Nat} {e : En} (h : es[m]? = some e) : (es.take (m + 1)).map En.ent = (es.take m).map En.ent ++ [e.ent] := by
  rw [take_some h, List.map_append]
  rfl
set_option maxHeartbeats 16000000 in
set_option maxRecDepth 100000 in
theorem same7_c (A B : Option Addr) (c d : Nat) (xs ys : List En) (w : World) (hA : EA w A xs) (hB : EA w B ys) (hn : xs.length ≤ 100000) (_hm : ys.length ≤ 100000) (ha : ∀ e ∈ xs, e.v.length ≤ 1000000) (hb : ∀ e ∈ ys, e.v.length ≤ 1000000) :
    Calls Tryd.prog 15 #[.slice A xs.length c, .slice B ys.length d] w fun e w' => e = .returned (.bool (decide (xs.map En.ent = ys.map En.ent))) ∧ Below w.heap.size w w' := by
  have HA := Lib.hid hA
  have HB := Lib.hid hB
  have HVA := Lib.hid ha
  have HVB := Lib.hid hb
  clear hA hB ha hb
  by_cases hl : xs.length = ys.length
  · have dn : ((xs.length : Int) != (ys.length : Int)) = false := by rw [bne_eq_false_iff_eq]; omega
    go_enter Tryd.func15, Tryd.ntmps15
    go_wp2_with fail
    go_loopg [5] xs.length (fun gg i wr => ∃ m : Nat, i = .int .i64 (m : Int) ∧ m ≤ xs.length ∧ xs.length - m = gg ∧ Hid ((xs.take m).map En.ent = (ys.take m).map En.ent) ∧ Below w.heap.size w wr)
    case atStart => exact ⟨0, rfl, by omega, by omega, rfl, Below.refl _ _⟩
    case round =>
      obtain ⟨m, rfl, hml, rfl, HE, hBw⟩ := hrel
      have HBw := Lib.hid hBw
      clear hBw
      by_cases hlt : m < xs.length
      · have hd : decide (m < xs.length) = true := decide_eq_true hlt
        obtain ⟨e, he⟩ : ∃ e, xs[m]? = some e := ⟨_, List.getElem?_eq_getElem hlt⟩
        obtain ⟨f, hf⟩ : ∃ f, ys[m]? = some f := ⟨_, List.getElem?_eq_getElem (by omega)⟩
        obtain ⟨hok, g, o, rfl, hr⟩ := HA.out m e he
        obtain ⟨hok2, g2, o2, rfl, hr2⟩ := HB.out m f hf
        have HEe := Lib.hid he
        have HFe := Lib.hid hf
        have HR1 := Lib.hid (range_below hr HBw.out)
        have HR2 := Lib.hid (range_below hr2 HBw.out)
        have HK1 := Lib.hid hok.key
        have HK2 := Lib.hid hok2.key
        have HV1 := Lib.hid (hok.val.below HBw.out)
        have HV2 := Lib.hid (hok2.val.below HBw.out)
        have p0 : (0 : Int) ≤ (m : Int) := by omega
        have p1 : (m : Int) < (xs.length : Int) := by omega
        have p2 : (m : Int) < (ys.length : Int) := by omega
        have l1 : ∀ q : Later wr, ldA 24 q.w (.pointer (some ⟨g, o + m * 33, none⟩)) = .ok (.value (.agg (bA e.k))) q.w := fun q => range_key (range_below HR1.out q.h) HK1.out
        have l2 : ∀ q : Later wr, ldA 24 q.w (.pointer (some ⟨g2, o2 + m * 33, none⟩)) = .ok (.value (.agg (bA f.k))) q.w := fun q => range_key (range_below HR2.out q.h) HK2.out
        have l3 : ∀ q : Later wr, q.w.cell? ⟨g, o + m * 33 + 32, none⟩ = some (.slice e.A e.v.length e.c) := fun q => range_val (range_below HR1.out q.h) HK1.out
        have l4 : ∀ q : Later wr, q.w.cell? ⟨g2, o2 + m * 33 + 32, none⟩ = some (.slice f.A f.v.length f.c) := fun q => range_val (range_below HR2.out q.h) HK2.out
        have HC : Hid (∀ q : Later wr, Calls Tryd.prog 19 #[.slice e.A e.v.length e.c, .slice f.A f.v.length f.c] q.w fun x w' => x = .returned (.bool (decide (e.v = f.v))) ∧ Below q.w.heap.size q.w w') := fun q =>
          same_c e.A f.A e.c f.c e.v f.v q.w (HV1.out.below q.h) (HV2.out.below q.h) (by have := HVA.out e (List.mem_of_getElem? HEe.out); omega) (by have := HVB.out f (List.mem_of_getElem? HFe.out); omega)
        clear he hf hok hok2 hr hr2
        by_cases hk : e.k = f.k
        · have qk : ∀ o p w, eqA .neq 24 o p w (.agg (bA e.k)) (.agg (bA f.k)) = .ok (.value (.bool false)) w := fun o p w => by rw [neKey e.k f.k HK1.out HK2.out, decide_eq_true hk]; rfl
          by_cases hv : e.v = f.v
          · rw [decide_eq_true hv] at HC
            have HN : Hid ((xs.take (m + 1)).map En.ent = (ys.take (m + 1)).map En.ent) := by
              show _ = _
              rw [map_take_succ HEe.out, map_take_succ HFe.out, HE.out]
              unfold En.ent
              rw [hk, hv]
            clear hk hv
            go_wp2_with fail
            refine wp_region_later (by kernel_rfl) (by kernel_rfl) ?_
            repeat (go_big_quiet_step ((go_at_call 19; exact Later.call (HC.out _))))
            refine wpQuiet_nil ?_
            rintro _ ⟨x, rfl⟩
            have HB2 := Lib.hid (HBw.out.trans (x.h.mono HBw.out.size))
            clear l1 l2 l3 l4 qk
            go_wp2_with fail
            go_roundg (xs.length - (m + 1))
            case measure => omega
            case rel => exact ⟨m + 1, by go_num, by omega, rfl, HN.out, HB2.out⟩
          · rw [decide_eq_false hv] at HC
            have HN : Hid (decide (xs.map En.ent = ys.map En.ent) = false) := by
              refine decide_eq_false fun h => hv ?_
              have h1 : (xs.map En.ent)[m]? = (ys.map En.ent)[m]? := by rw [h]
              rw [List.getElem?_map, List.getElem?_map, HEe.out, HFe.out] at h1
              exact congrArg Ent.v (Option.some.inj h1)
            clear hk hv
            go_wp2_with fail
            refine wp_region_later (by kernel_rfl) (by kernel_rfl) ?_
            repeat (go_big_quiet_step ((go_at_call 19; exact Later.call (HC.out _))))
            refine wpQuiet_nil ?_
            rintro _ ⟨x, rfl⟩
            have HB2 := Lib.hid (HBw.out.trans (x.h.mono HBw.out.size))
            clear l1 l2 l3 l4 qk
            go_wp2_with fail
            go_ret
            exact ⟨ret_bool HN.out.symm, HB2.out⟩
        · have qk : ∀ o p w, eqA .neq 24 o p w (.agg (bA e.k)) (.agg (bA f.k)) = .ok (.value (.bool true)) w := fun o p w => by rw [neKey e.k f.k HK1.out HK2.out, decide_eq_false hk]; rfl
          have HN : Hid (decide (xs.map En.ent = ys.map En.ent) = false) := by
            refine decide_eq_false fun h => hk ?_
            have h1 : (xs.map En.ent)[m]? = (ys.map En.ent)[m]? := by rw [h]
            rw [List.getElem?_map, List.getElem?_map, HEe.out, HFe.out] at h1
            exact congrArg Ent.k (Option.some.inj h1)
          clear hk
          go_wp2_with fail
          refine wp_region_later (by kernel_rfl) (by kernel_rfl) ?_
          repeat (go_big_quiet_step (fail))
          refine wpQuiet_nil ?_
          rintro _ ⟨x, rfl⟩
          have HB2 := Lib.hid (HBw.out.trans (x.h.mono HBw.out.size))
          clear l1 l2 l3 l4 qk
          go_wp2_with fail
          go_ret
          exact ⟨ret_bool HN.out.symm, HB2.out⟩
      · have hd : decide (m < xs.length) = false := decide_eq_false (by omega)
        have HN : Hid (decide (xs.map En.ent = ys.map En.ent) = true) := by
          refine decide_eq_true ?_
          have := HE.out
          rwa [List.take_of_length_le (by omega), List.take_of_length_le (by omega)] at this
        go_wp2_with fail
        go_ret
        exact ⟨ret_bool HN.out.symm, HBw.out⟩
  · have dn : ((xs.length : Int) != (ys.length : Int)) = true := by rw [bne_iff_ne]; omega
    have HN : Hid (decide (xs.map En.ent = ys.map En.ent) = false) := by
      refine decide_eq_false fun h => hl ?_
      have := congrArg List.length h
      simpa using this
    clear hl
    go_enter Tryd.func15, Tryd.ntmps15
    go_wp2_with fail
    go_ret
    exact ⟨ret_bool HN.out.symm, Below.refl _ _⟩
end Go.Proofs.YtpnpdllkcglpnaaDoor
